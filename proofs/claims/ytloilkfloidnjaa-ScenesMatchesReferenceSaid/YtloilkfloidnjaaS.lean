/- The walk of ScenesMatchesReference. -/
import Derived.Test.YtloilkfloidnjaaQ
import Derived.Test.YtloilkfloidnjaaO
import Derived.Deep.RegionHeld3
namespace Go.Proofs.Ytloilkfloidnjaa
open Go.RowKit Go.WideMaps

theorem few_fit {L : List Scn} {N : List ByteArray} (h : few L N.length = true) (hk : ∀ x ∈ L, x.ok) (hnk : ∀ x ∈ N, x.size ≤ maxLen) : Fit L N := by
  unfold few at h
  rw [Bool.and_eq_true, Bool.and_eq_true, List.all_eq_true, decide_eq_true_iff, decide_eq_true_iff] at h
  exact ⟨hk, fun x hx => by simpa using h.1 x hx, h.2.1, hnk, h.2.2⟩
theorem eqL_refl (l : List Sett) : eqL l l = true := eqL_yes rfl fun _ _ => sS_iff.2 rfl
theorem few_call {v vn : Value} {L : List Scn} {N : List ByteArray} {w : World} (h : ScnsAt w v L) (hn : NamesAt w vn N) : Calls Try.prog 12 #[v, vn] w fun e w' => e = .returned (.bool (few L N.length)) ∧ w = w' := by
  obtain ⟨an, cn, rfl, hm, -⟩ := hn
  exact few_any v L an N.length cn w h hm
set_option maxRecDepth 100000 in
set_option maxHeartbeats 8000000 in
theorem match_walk (v : Value) (L : List Scn) (vn : Value) (N : List ByteArray) (d a : ByteArray) (w : World) (h : ScnsAt w v L) (hk : ∀ x ∈ L, x.ok) (hn : NamesAt w vn N) (hnk : ∀ x ∈ N, x.size ≤ maxLen) (hd : d.size ≤ maxLen) (ha : a.size ≤ maxLen) :
    Calls Try.prog 3 #[v, vn, .agg #[.string d, .string a]] w fun e w' => e = .returned (.bool true) ∧ Below w.heap.size w w' := by
  have B1 := al w (.cells #[.string d, .string a] 25)
  have HS := Lib.hid (h.step B1)
  have HN := Lib.hid (hn.step B1)
  have HB1 := Lib.hid B1
  have HC0 := Lib.hid (cell_new' w #[.string d, .string a] 25 _ rfl 0)
  have HC1 := Lib.hid (cell_new' w #[.string d, .string a] 25 _ rfl 1)
  clear B1
  have HF := Lib.hid (fun hf => few_fit (L := L) (N := N) hf hk hnk)
  obtain ⟨a1, c1, rfl, -⟩ := h.open
  obtain ⟨an, cn, rfl, -, -⟩ := hn
  clear h hk hnk
  go_enter Try.func3, Try.ntmps3
  go_wp2_with fail
  refine (head_any _).mono ?_
  rintro e w2 ⟨rfl, b2⟩
  have HS2 := Lib.hid (HS.out.step b2)
  have HN2 := Lib.hid (HN.out.step b2)
  have HB2 := Lib.hid (keep2 b2 HB1.out)
  have C0 := Lib.hid (keep1 b2 HC0.out)
  have C1 := Lib.hid (keep1 b2 HC1.out)
  clear b2
  go_wp2_with fail
  refine (few_call HS2.out HN2.out).mono ?_
  rintro e w3 ⟨rfl, rfl⟩
  cases hf : few L N.length
  · go_wp2
    go_ret
    exact ⟨rfl, HB2.out⟩
  · have FT := Lib.hid (HF.out hf)
    go_wp2_with fail
    refine (overlay_any _ _ L N _ HS2.out HN2.out FT.out).mono ?_
    rintro e w4 ⟨ho, b4⟩
    have HO := Lib.hid ho
    have HS4 := Lib.hid (HS2.out.step b4)
    have HN4 := Lib.hid (HN2.out.step b4)
    have HB4 := Lib.hid (keep2 b4 HB2.out)
    have C04 := Lib.hid (keep1 b4 C0.out)
    have C14 := Lib.hid (keep1 b4 C1.out)
    have X4 := Lib.hid b4
    clear ho b4
    have hr := roverlay_any _ _ L N w4 HS4.out HN4.out FT.out
    have HW16 : Hid (∀ W, Below w4.heap.size w4 W → Calls Try.prog 16 #[.slice a1 L.length c1, .slice an N.length cn, .agg #[.string d, .string a]] W fun e w' => e = .returned (.int .i64 (rW L N d a)) ∧ Below W.heap.size W w') := Lib.hid (fun W hW => by
      rw [← wI_eq]
      exact wins_any _ _ L N d a W (HS4.out.step hW) (HN4.out.step hW) FT.out hd ha)
    have HW17 : Hid (∀ W, Below w4.heap.size w4 W → Calls Try.prog 17 #[.slice a1 L.length c1, .slice an N.length cn, .agg #[.string d, .string a]] W fun e w' => e = .returned (.int .i64 (rW L N d a)) ∧ Below W.heap.size W w') := Lib.hid (fun W hW =>
      rwins_any _ _ L N d a W (HS4.out.step hW) (HN4.out.step hW) FT.out)
    have HR := Lib.hid hr
    clear hr
    generalize rW L N d a = rr at *
    rcases HO.out with ⟨hkn, rfl⟩ | ⟨hkn, u, rfl, hsu⟩
    · have HK := Lib.hid hkn
      clear HO hkn
      go_wp2_with fail
      refine HR.out.mono ?_
      rintro e w5 ⟨⟨hk2, rfl⟩ | ⟨hk2, -⟩, b5⟩
      · have z0 := keep1 b5 C04.out
        have z1 := keep1 b5 C14.out
        simp at z0 z1
        have HW16' : Hid (∀ W, Below w5.heap.size w5 W → Calls Try.prog 16 #[.slice a1 L.length c1, .slice an N.length cn, .agg #[.string d, .string a]] W fun e w' => e = .returned (.int .i64 rr) ∧ Below W.heap.size W w') := Lib.hid (fun W hW => HW16.out W (keep2 hW b5))
        have HW17' : Hid (∀ W, Below w5.heap.size w5 W → Calls Try.prog 17 #[.slice a1 L.length c1, .slice an N.length cn, .agg #[.string d, .string a]] W fun e w' => e = .returned (.int .i64 rr) ∧ Below W.heap.size W w') := Lib.hid (fun W hW => HW17.out W (keep2 hW b5))
        have HSame : Hid (∀ W, Below w5.heap.size w5 W → Calls Try.prog 15 #[.slice none 0 0, .slice none 0 0] W fun e w' => e = .returned (.bool true) ∧ Below W.heap.size W w') := Lib.hid (fun W hW => same_any _ _ [] [] W ⟨none, 0, rfl, by simp, fun h => absurd rfl h⟩ ⟨none, 0, rfl, by simp, fun h => absurd rfl h⟩)
        have HE := Lib.hid (keep2 b5 HB4.out)
        clear b5 hk2 HW16 HW17
        go_wp2_with fail
        have hS : (fun w' => Below w5.heap.size w5 w' ∧ w'.cell? ⟨w.heap.size, 0, none⟩ = some (.string d) ∧ w'.cell? ⟨w.heap.size, 1, none⟩ = some (.string a)) w5.drew := ⟨below_drew _ _, z0, z1⟩
        go_region_held3 (fun w' => Below w5.heap.size w5 w' ∧ w'.cell? ⟨w.heap.size, 0, none⟩ = some (.string d) ∧ w'.cell? ⟨w.heap.size, 1, none⟩ = some (.string a))
          (first | go_keep | (go_split_ands; refine ⟨?_, ?_, ?_⟩ <;> first | assumption | exact keep1 hbq (by assumption) | exact keep2 hbq (by assumption) | go_keep))
          (first | (go_at_call 15; refine (HSame.out _ (by first | assumption | exact And.left (by assumption))).mono ?_; rintro e w' ⟨rfl, hbq⟩) | (go_at_call 16; refine (HW16'.out _ (by first | assumption | exact And.left (by assumption))).mono ?_; rintro e w' ⟨rfl, hbq⟩) | (go_at_call 17; refine (HW17'.out _ (by first | assumption | exact And.left (by assumption))).mono ?_; rintro e w' ⟨rfl, hbq⟩))
        have hS9 : Below w5.heap.size w5 w' ∧ w'.cell? ⟨w.heap.size, 0, none⟩ = some (.string d) ∧ w'.cell? ⟨w.heap.size, 1, none⟩ = some (.string a) := by assumption
        have hS8 := Lib.hid (keep2 hS9.1 HE.out)
        clear hS9
        go_wp2
        go_ret
        exact ⟨rfl, hS8.out⟩
      · rw [HK.out] at hk2; cases hk2
    · have HK := Lib.hid hkn
      have Hsu := Lib.hid hsu
      clear HO hkn hsu
      go_wp2_with fail
      refine HR.out.mono ?_
      rintro e w5 ⟨⟨hk2, -⟩ | ⟨hk2, u5, rfl, hs5⟩, b5⟩
      · rw [HK.out] at hk2; cases hk2
      · have z0 := keep1 b5 C04.out
        have z1 := keep1 b5 C14.out
        simp at z0 z1
        have HW16' : Hid (∀ W, Below w5.heap.size w5 W → Calls Try.prog 16 #[.slice a1 L.length c1, .slice an N.length cn, .agg #[.string d, .string a]] W fun e w' => e = .returned (.int .i64 rr) ∧ Below W.heap.size W w') := Lib.hid (fun W hW => HW16.out W (keep2 hW b5))
        have HW17' : Hid (∀ W, Below w5.heap.size w5 W → Calls Try.prog 17 #[.slice a1 L.length c1, .slice an N.length cn, .agg #[.string d, .string a]] W fun e w' => e = .returned (.int .i64 rr) ∧ Below W.heap.size W w') := Lib.hid (fun W hW => HW17.out W (keep2 hW b5))
        have HSame : Hid (∀ W, Below w5.heap.size w5 W → Calls Try.prog 15 #[u, u5] W fun e w' => e = .returned (.bool true) ∧ Below W.heap.size W w') := Lib.hid (fun W hW => by
          have := same_any u u5 _ _ W ((Hsu.out.step b5).step hW) (hs5.step hW)
          rw [eqL_refl] at this
          exact this)
        have HE := Lib.hid (keep2 b5 HB4.out)
        clear b5 hk2 HW16 HW17
        go_wp2_with fail
        have hS : (fun w' => Below w5.heap.size w5 w' ∧ w'.cell? ⟨w.heap.size, 0, none⟩ = some (.string d) ∧ w'.cell? ⟨w.heap.size, 1, none⟩ = some (.string a)) w5.drew := ⟨below_drew _ _, z0, z1⟩
        go_region_held3 (fun w' => Below w5.heap.size w5 w' ∧ w'.cell? ⟨w.heap.size, 0, none⟩ = some (.string d) ∧ w'.cell? ⟨w.heap.size, 1, none⟩ = some (.string a))
          (first | go_keep | (go_split_ands; refine ⟨?_, ?_, ?_⟩ <;> first | assumption | exact keep1 hbq (by assumption) | exact keep2 hbq (by assumption) | go_keep))
          (first | (go_at_call 15; refine (HSame.out _ (by first | assumption | exact And.left (by assumption))).mono ?_; rintro e w' ⟨rfl, hbq⟩) | (go_at_call 16; refine (HW16'.out _ (by first | assumption | exact And.left (by assumption))).mono ?_; rintro e w' ⟨rfl, hbq⟩) | (go_at_call 17; refine (HW17'.out _ (by first | assumption | exact And.left (by assumption))).mono ?_; rintro e w' ⟨rfl, hbq⟩))
        have hS9 : Below w5.heap.size w5 w' ∧ w'.cell? ⟨w.heap.size, 0, none⟩ = some (.string d) ∧ w'.cell? ⟨w.heap.size, 1, none⟩ = some (.string a) := by assumption
        have hS8 := Lib.hid (keep2 hS9.1 HE.out)
        clear hS9
        go_wp2
        go_ret
        exact ⟨rfl, hS8.out⟩
end Go.Proofs.Ytloilkfloidnjaa
