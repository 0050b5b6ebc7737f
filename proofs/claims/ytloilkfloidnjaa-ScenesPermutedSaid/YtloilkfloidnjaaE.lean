/- The walk of the program's 'find'. -/
import Derived.Test.YtloilkfloidnjaaD
namespace Go.Proofs.Ytloilkfloidnjaa
open Go.RowKit Go.WideMaps

theorem kn_no {L : List Scn} {N : List ByteArray} {k : Nat} (hk : k < N.length) (h : (fI L N[k]).isSome = false) : kn L N = false := kn_false hk (by simpa using h)
theorem kn_yes {L : List Scn} {N : List ByteArray} (h : ∀ j (hj : j < N.length), (fI L N[j]).isSome = true) : kn L N = true := kn_true fun j hj e => by
  have := h j hj; rw [e] at this; simp at this
theorem take_row {L : List Scn} {N : List ByteArray} {k : Nat} (hk : k < N.length) : rowN L (N.take (k + 1)) = rowN L (N.take k) ++ [.int .i64 (((fI L N[k]).getD 0 : Nat) : Int)] := by
  unfold rowN
  rw [List.take_succ_eq_append_getElem hk, List.map_append]
  rfl
set_option maxRecDepth 100000 in
set_option maxHeartbeats 4000000 in
theorem sfind_any (v vn : Value) (L : List Scn) (N : List ByteArray) (w : World) (h : ScnsAt w v L) (hk : ∀ x ∈ L, x.ok) (hn : NamesAt w vn N) (hnk : ∀ x ∈ N, x.size ≤ maxLen) (hl : L.length ≤ 12) (h20 : N.length ≤ 40) :
    Calls Try.prog 24 #[v, vn] w (FindPost L N w) := by
  obtain ⟨a, cap, rfl, -, hc⟩ := h
  obtain ⟨an, capn, rfl, -, hcn⟩ := hn
  have HC := Lib.hid hc
  have HN := Lib.hid hcn
  have HK := Lib.hid hk
  have HNK := Lib.hid hnk
  clear hc hcn hk hnk
  have hmm := @run_makeMap Try.prog
  obtain ⟨i0, hi, hz0, hz1, hz2⟩ := info_parts info3
  go_enter Try.func24, Try.ntmps24
  go_wp2_with fail
  go_loopw [19] (fun i wr => ∃ k n : Nat, k ≤ L.length ∧ i = .int .i64 k ∧ n ≤ k ∧ Hid (MP wr w.heap.size n (fun s => fI (L.take k) s)) ∧ Hid (Below w.heap.size w wr) ∧ w.heap.size + 1 ≤ wr.heap.size) (fun i _ => L.length - (intOf i).toNat)
  case atStart => exact ⟨0, 0, by omega, rfl, by omega, (MP.made w).congr (fun s => by simp [fI]), (Below.refl _ _).alloc (Nat.le_refl _) _, by simp⟩
  case round =>
    obtain ⟨k, n, hk, rfl, hnk, HM, HB, hsz⟩ := hrel
    by_cases hlt : k < L.length
    · obtain ⟨b, off, rfl, hcs⟩ := HC.out (by intro h; rw [h] at hlt; simp at hlt)
      obtain ⟨c0, c1, sv, c2, sa, sc, rfl, -⟩ := hcs k L[k] (by simp)
      have c0' := keep1 HB.out c0
      have c1' := keep1 HB.out c1
      have c2' := keep1 HB.out c2
      have hs := (HK.out _ (List.getElem_mem hlt)).1
      have hrun := (HM.out.alloc (.cells #[.string L[k].name, .int .i64 L[k].layer, .slice sa L[k].sets.length sc] 44)).look hs
      have HT := Lib.hid (take_new hlt)
      have HO := Lib.hid (take_old hlt)
      clear hcs c0 c1 c2
      generalize hnm : L[k].name = nm at *
      generalize L[k].layer = ly at *
      generalize L[k].sets.length = sl at *
      cases ho : (fI (L.take k) nm).isSome
      · have HF := Lib.hid (HT.out ho)
        obtain ⟨w1, hst, hm1, hg⟩ := (HM.out.alloc (.cells #[.string nm, .int .i64 ly, .slice sa sl sc] 44)).store hs (k := k) (by omega) (by omega)
        have HM1 := Lib.hid (hm1.congr HF.out)
        have HB1 := Lib.hid ((HB.out.alloc (by omega) _).grown hg (by simp; omega) (fun j hj => by cases hj; exact Nat.le_refl _))
        have hsz1 := hg.size
        simp at hsz1
        rw [ho] at hrun
        clear HF hg hm1
        go_wp2
        go_roundw
        case rel => exact ⟨k + 1, n + 1, by omega, by go_num, by omega, HM1, HB1, by omega⟩
        case measure => simp [intOf]; omega
      · have HF := Lib.hid (HO.out ho)
        have HM1 := Lib.hid ((HM.out.congr HF.out).alloc (.cells #[.string nm, .int .i64 ly, .slice sa sl sc] 44))
        have HB1 := Lib.hid (HB.out.alloc (by omega) (.cells #[.string nm, .int .i64 ly, .slice sa sl sc] 44))
        rw [ho] at hrun
        clear HF
        go_wp2
        go_roundw
        case rel => exact ⟨k + 1, n, by omega, by go_num, by omega, HM1, HB1, by simp; omega⟩
        case measure => simp [intOf]; omega
    · have hkl : k = L.length := by omega
      subst hkl
      rw [List.take_length] at HM
      clear hlt hk
      go_wp2_with fail
      go_loopw [11, 40] (fun v i w2 => ∃ k : Nat, k ≤ N.length ∧ i = .int .i64 k ∧ Hid (MP w2 w.heap.size n (fun s => fI L s)) ∧ Hid (Below w.heap.size w w2) ∧ w.heap.size + 1 ≤ w2.heap.size ∧ Hid (w2.ownsRow (w.heap.size + 1) 3 1 v k (rowN L (N.take k))) ∧ Hid (∀ j (hj : j < N.length), j < k → (fI L N[j]).isSome = true)) (fun _ i _ => N.length - (intOf i).toNat)
      case atStart => exact ⟨0, by omega, rfl, HM.out, HB.out, hsz, Lib.hid (by simpa [rowN] using World.ownsRow_nil _ _ _ _), fun j hj h => absurd h (by omega)⟩
      case round =>
        obtain ⟨k, hk, rfl, HM, HB, hsz, HR, HY⟩ := hrel
        by_cases hlt : k < N.length
        · obtain ⟨b2, o2, rfl, hcs⟩ := HN.out (by intro h; rw [h] at hlt; simp at hlt)
          have c0 := keep1 HB.out (hcs k N[k] (by simp))
          have hs := HNK.out _ (List.getElem_mem hlt)
          have hrun := HM.out.look hs
          have HF := Lib.hid (kn_no (L := L) hlt)
          have HT := Lib.hid (take_row (L := L) hlt)
          have HYs := Lib.hid (show (fI L N[k]).isSome = true → ∀ j (hj : j < N.length), j < k + 1 → (fI L N[j]).isSome = true from fun h j hj h' => by
            by_cases e : j = k
            · subst e; exact h
            · exact HY.out j hj (by omega))
          clear hcs
          generalize hnm : N[k] = nm at *
          cases ho : (fI L nm).isSome
          · have HE := Lib.hid (HF.out ho)
            rw [ho] at hrun
            go_wp2
            refine bodyPost_ret (v := .tuple #[.slice none 0 0, .bool false]) (by simp [results, Try.results24, go_sem]) rfl ⟨_, by rw [HE.out], HB.out, fun h => absurd h (by rw [HE.out]; simp), fun _ => rfl⟩
          · have HE := Lib.hid (HYs.out ho)
            rw [ho] at hrun
            generalize hix : (fI L nm).getD 0 = x at *
            have HR1 := Lib.hid (HR.out.alloc (.cells #[.int .i64 (x : Int)] 3))
            go_wp2_with (at_builtin; refine wpList_append_own _ rfl _ _ 52 rfl (w.heap.size + 1) 3 i0 (.int .i64 0) 1 8 Try.underlying52 hi hz0 hz1 hz2 rfl (by decide) _ _ _ rfl HR1.out ⟨wr.heap.size, 0, none⟩ 1 1 [.int .i64 (x : Int)] rfl rfl (cell_one_new _ _ _) (ints_oneCell .i64 [(x : Int)]) (by unfold maxLen; omega) (by omega) (by simp; omega) ?_; intro v' w3 hown' hgrow hnil)
            have HR2 := Lib.hid (HT.out.symm ▸ hown')
            have HM2 := Lib.hid ((HM.out.alloc (.cells #[.int .i64 (x : Int)] 3)).kept hgrow (row_above HR1.out (Nat.lt_succ_self _)))
            have HB2 := Lib.hid ((HB.out.alloc (by omega) (.cells #[.int .i64 (x : Int)] 3)).grown hgrow (by simp; omega) (fun j hj => Nat.le_trans (Nat.le_succ _) (HR1.out.lt j hj).1))
            have hs2 := hgrow.size
            simp at hs2
            clear hown' hgrow hnil
            go_wp2
            go_roundw
            case rel => exact ⟨k + 1, by omega, by go_num, HM2, HB2, by omega, HR2, HE⟩
            case measure => simp [intOf]; omega
        · have hkl : k = N.length := by omega
          subst hkl
          rw [List.take_length] at HR
          have HE := Lib.hid (kn_yes (L := L) (N := N) fun j hj => HY.out j hj hj)
          go_wp2
          refine bodyPost_ret (v := .tuple #[u11, .bool true]) (by simp [results, Try.results24, go_sem]) rfl ⟨_, by rw [HE.out], HB.out, fun _ => HR.out, fun h => absurd h (by rw [HE.out]; simp)⟩
end Go.Proofs.Ytloilkfloidnjaa
