/- The reference's 'Back': the contract. -/
import Derived.Test.YtilaiingcddegaaH
import Derived.Deep.AppendLies
import Derived.Deep.RegionLaw
import Derived.OwnWalk
namespace Go.Proofs.Ytilaiingcddegaa
open Go.RowKit

theorem row_step {w w1 : World} {v' : Value} {l : List Int} {k : Nat} {x : Int} (hx : (backL l).take (k + 1) = (backL l).take k ++ [x]) (hown' : w1.ownsRow w.heap.size 3 1 v' (k + 1) (((backL l).take k).map (Value.int .i64) ++ [.int .i64 x])) :
    w1.ownsRow w.heap.size 3 1 v' (k + 1) (((backL l).take (k + 1)).map (Value.int .i64)) := by
  rw [hx]; simpa using hown'
theorem below_own {w wr w1 : World} {v : Value} {o : Obj} {n : Nat} {xs : List Value} (hB : Below w.heap.size w wr) (hrow : wr.ownsRow w.heap.size 3 1 v n xs) (hg : (wr.alloc o).grownBy w1 v.ownBlock) : Below w.heap.size w w1 := by
  refine ((hB.alloc hB.size o).grown hg (by have := hB.size; simp; omega) fun j ej => ?_)
  rcases hrow.2 with ⟨rfl, _⟩ | ⟨g, cap, cur, rfl, hb, _, _⟩
  · simp [Value.ownBlock] at ej
  · obtain rfl : g = j := by simpa [Value.ownBlock] using ej
    exact hb
theorem below_own' {w wr w1 : World} {v : Value} {o : Obj} {n : Nat} {xs : List Value} (hB : Below w.heap.size w wr) (hrow : wr.ownsRow w.heap.size 3 1 v n xs) (hg : (wr.alloc o).drew.grownBy w1 v.ownBlock) : Below w.heap.size w w1 :=
  below_own (wr := wr.drew) (o := o) (hB.trans (below_drew _ _)) hrow hg
set_option maxRecDepth 100000 in
set_option maxHeartbeats 4000000 in
theorem rback_any (v : Value) (l : List Int) (w : World) (h : IntsAt w v l) : Calls Try.prog 20 #[v] w (BackPost (bkv l) w) := by
  have H := Lib.hid h
  obtain ⟨a, cap, rfl, hm, -⟩ := h
  unfold maxLen at hm
  cases hr : rdB l
  · have HV := Lib.hid (show bkv l = [] by unfold bkv; rw [hr]; rfl)
    rw [HV.out]
    go_enter Try.func20, Try.ntmps20
    go_wp2_with (go_at_call 23; go_must (refine (readings_any _ l _ H.out).mono ?_); rintro e w' ⟨rfl, rfl⟩; rw [hr])
    go_ret
    exact BackPost.nil (by repeat (first | with_reducible exact Below.refl _ _ | with_reducible exact Below.refl _ _ | ((with_reducible refine Below.setCell ?_ ?_ _); rotate_left; focus (first | (simp; done) | (simp; omega) | omega)) | ((with_reducible refine Below.alloc ?_ ?_ _); rotate_left; focus (first | (simp; done) | (simp; omega) | omega)) | with_reducible refine Below.trans ?_ (below_drewN' _ _ _) | with_reducible refine Below.trans ?_ (below_drew _ _)))
  · have HV := Lib.hid (show bkv l = backL l by unfold bkv; rw [hr]; rfl)
    rw [HV.out]
    obtain ⟨hi, h4⟩ : inR l = true ∧ l.length ≤ 400 := by unfold rdB at hr; simpa using hr
    have HI := Lib.hid hi
    clear hi
    obtain ⟨i0, hi, hz0, hz1, hz2⟩ := info_parts info3
    go_enter Try.func20, Try.ntmps20
    go_wp2_with (go_at_call 23; go_must (refine (readings_any _ l _ H.out).mono ?_); rintro e w' ⟨rfl, rfl⟩; rw [hr])
    go_loopw [3, 4] (fun v i wr => ∃ k : Nat, k ≤ l.length ∧ i = .int .i64 k ∧ Hid (wr.ownsRow w.heap.size 3 1 v k (((backL l).take k).map (Value.int .i64))) ∧ Hid (Below w.heap.size w wr)) (fun _ i _ => l.length - (intOf i).toNat)
    case atStart => exact ⟨0, by omega, rfl, World.ownsRow_nil _ _ _ _, Below.refl _ _⟩
    case round =>
      obtain ⟨k, hk, rfl, HR, HB⟩ := hrel
      have hsz := HB.out.size
      by_cases hlt : k < l.length
      · have hla := H.out.step HB.out
        obtain ⟨a2, cap2, hva, -, hcs⟩ := hla
        obtain ⟨rfl, rfl⟩ : a = a2 ∧ cap = cap2 := by simpa using hva
        obtain ⟨b, off, rfl, hcs2⟩ := hcs (by intro h; rw [h] at hlt; simp at hlt)
        clear hcs hva
        have hx := hcs2 k _ (getD_of hlt)
        have HT := Lib.hid (backL_take l k hlt)
        have g1 := inR_get HI.out k
        cases k with
        | zero =>
          have HK := Lib.hid (show bk l 0 = l.getD 0 0 from rfl)
          clear hcs2
          rw [Nat.add_zero] at hx
          rw [show ((0 : Nat) : Int) = 0 from rfl]
          have hl0 : 0 < l.length := hlt
          generalize l.getD 0 0 = x at *
          go_wp2_with (at_builtin; refine wpList_append_own _ rfl _ _ 24 rfl w.heap.size 3 i0 (.int .i64 0) 1 8 Try.underlying24 hi hz0 hz1 hz2 rfl (by decide) _ _ _ rfl (HR.out.alloc _) ⟨wr.heap.size, 0, none⟩ 1 1 [.int .i64 x] rfl rfl (cell_one_new _ _ _) (by simp [Value.oneCell']) (by unfold maxLen; omega) (by omega) (by simp; omega) ?_; intro v' w1 hown' hgrow _; have HR1 := Lib.hid (row_step (by rw [← HK.out]; exact HT.out) hown'); have HB1 := Lib.hid (below_own HB.out HR.out hgrow); clear hown' hgrow)
          go_roundw
          case rel => exact ⟨1, hlt, by go_num, HR1, HB1⟩
          case measure => simp [intOf]; omega
        | succ m =>
          have hx1 := hcs2 m _ (getD_of (show m < l.length by omega))
          have g2 := inR_get HI.out m
          have g3 := bk_bd HI.out m
          have hm4 : m < 400 := by omega
          have HM := Lib.hid (mx_bd (l.getD (m + 1) 0 - l.getD m 0) (by omega) (by omega))
          have HK := Lib.hid (show bk l (m + 1) = bk l m + mx 0 (l.getD (m + 1) 0 - l.getD m 0) from rfl)
          obtain ⟨g, cg, rfl⟩ := ownsRow_succ HR.out
          have hg := HR.out.cells (g := g) rfl m (.int .i64 (bk l m)) (by rw [List.getElem?_map, List.getElem?_take_of_lt (by omega)]; simp [backL, show m < l.length by omega])
          rw [Go.WideShapes.add_plain] at hg
          rw [Nat.zero_add] at hg
          clear hcs2
          have hm5 : (m : Int) + 1 < l.length := by omega
          have hm6 : (m : Int) < l.length := by omega
          have hm8 : 0 ≤ (m : Int) + 1 := by omega
          have hm7 : (m : Int) < (m : Int) + 1 := by omega
          generalize l.getD (m + 1) 0 = x at *
          generalize l.getD m 0 = y at *
          generalize bk l m = nw at *
          by_cases hxy : 0 < x - y
          · have HE := Lib.hid (show bk l (m + 1) = nw + (x - y) by rw [HK.out]; unfold mx; rw [if_pos hxy])
            have hl1 := Lib.hid (show ∀ o, (wr.alloc o).drew.ownsRow w.heap.size 3 1 (.slice (some ⟨g, 0, none⟩) (m + 1) cg) (m + 1) (((backL l).take (m + 1)).map (Value.int .i64)) from fun o => HR.out.alloc o)
            have hn1 := Lib.hid (show ∀ j u, [Value.int .i64 (nw + (x - y))][j]? = some u → (wr.alloc (.cells #[.int .i64 (nw + (x - y))] 3)).drew.cell? ((⟨wr.heap.size, 0, none⟩ : Addr).add j) = some u from cell_one_new _ _ _)
            have hyx : y < x := by omega
            have c1 : m + 1 + 1 ≤ maxLen := by unfold maxLen; omega
            have c2 : (m + 1 + 1) * 8 ≤ 140737488355328 := by omega
            have c3 := fun o => show w.heap.size ≤ (wr.alloc o).drew.heap.size by simp; omega
            go_wp2
            have q1 : IntKind.i64.wrap (m : Int) = m := IntWalk.i64_in _ (by omega)
            have q2 : IntKind.i64.wrap (x - y) = x - y := IntWalk.i64_in _ (by omega)
            have q3 : IntKind.i64.wrap (nw + (x - y)) = nw + (x - y) := IntWalk.i64_in _ (by omega)
            go_region_law (refine step_append_lies _ rfl _ _ 24 rfl w.heap.size 3 i0 (.int .i64 0) 1 8 Try.underlying24 hi hz0 hz1 hz2 rfl (by decide) _ _ _ rfl (hl1.out _) ⟨wr.heap.size, 0, none⟩ 1 1 [.int .i64 (nw + (x - y))] rfl rfl hn1.out (by simp [Value.oneCell']) (by decide) c1 c2 (c3 _) _ rfl ?_; intro g' cap' w1 hown' hgrow _ _; have HR1 := Lib.hid (row_step (by rw [← HE.out]; exact HT.out) hown'); have HB1 := Lib.hid (below_own' HB.out HR.out hgrow); clear hown' hgrow)
            all_goals clear q1 q2 q3 hyx
            all_goals go_wp2
            all_goals go_roundw
            all_goals first | exact ⟨m + 1 + 1, hlt, by go_num, HR1, HB1⟩ | (simp [intOf]; omega)
          · have HE := Lib.hid (show bk l (m + 1) = nw by rw [HK.out]; unfold mx; rw [if_neg hxy]; omega)
            have hl1 := Lib.hid (show ∀ o, (wr.alloc o).drew.ownsRow w.heap.size 3 1 (.slice (some ⟨g, 0, none⟩) (m + 1) cg) (m + 1) (((backL l).take (m + 1)).map (Value.int .i64)) from fun o => HR.out.alloc o)
            have hn1 := Lib.hid (show ∀ j u, [Value.int .i64 nw][j]? = some u → (wr.alloc (.cells #[.int .i64 nw] 3)).drew.cell? ((⟨wr.heap.size, 0, none⟩ : Addr).add j) = some u from cell_one_new _ _ _)
            have hyx : (y < x) = False := eq_false (by omega)
            have c1 : m + 1 + 1 ≤ maxLen := by unfold maxLen; omega
            have c2 : (m + 1 + 1) * 8 ≤ 140737488355328 := by omega
            have c3 := fun o => show w.heap.size ≤ (wr.alloc o).drew.heap.size by simp; omega
            go_wp2
            have q1 : IntKind.i64.wrap (m : Int) = m := IntWalk.i64_in _ (by omega)
            have q2 : IntKind.i64.wrap (x - y) = x - y := IntWalk.i64_in _ (by omega)
            have q3 : IntKind.i64.wrap nw = nw := IntWalk.i64_in _ (by omega)
            go_region_law (refine step_append_lies _ rfl _ _ 24 rfl w.heap.size 3 i0 (.int .i64 0) 1 8 Try.underlying24 hi hz0 hz1 hz2 rfl (by decide) _ _ _ rfl (hl1.out _) ⟨wr.heap.size, 0, none⟩ 1 1 [.int .i64 nw] rfl rfl hn1.out (by simp [Value.oneCell']) (by decide) c1 c2 (c3 _) _ rfl ?_; intro g' cap' w1 hown' hgrow _ _; have HR1 := Lib.hid (row_step (by rw [← HE.out]; exact HT.out) hown'); have HB1 := Lib.hid (below_own' HB.out HR.out hgrow); clear hown' hgrow)
            all_goals clear q1 q2 q3 hyx
            all_goals go_wp2
            all_goals go_roundw
            all_goals first | exact ⟨m + 1 + 1, hlt, by go_num, HR1, HB1⟩ | (simp [intOf]; omega)
      · have hlen : k = l.length := by omega
        subst hlen
        have HA := HR.out
        rw [List.take_of_length_le (by rw [backL_len]; omega)] at HA
        have HQ := Lib.hid (ints_of_row (by rw [backL_len]; exact HA))
        clear HA
        go_wp2
        go_ret
        exact ⟨_, rfl, HQ.out, HB.out⟩
end Go.Proofs.Ytilaiingcddegaa
