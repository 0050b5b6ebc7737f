import Derived.Deep.AppendLies
import Derived.Deep.RegionLaw
import Derived.Test.YteodafhgfcbdpaaGa
namespace Go.Proofs.Yteodafhgfcbdpaa
open Go.RowKit

theorem row_step {w w1 : World} {base e s : Nat} {v : Value} {n : Nat} {xs : List Value} (h : w.ownsRow base e s v n xs) (hb : Below w.heap.size w w1) : w1.ownsRow base e s v n xs := by
  refine ⟨h.1, ?_⟩
  rcases h.2 with h0 | ⟨g, cap, cur, h1, h2, h3, h4⟩
  · exact .inl h0
  · exact .inr ⟨g, cap, cur, h1, h2, (hb.block g (Array.getElem?_eq_some_iff.1 h3).1).trans h3, h4⟩
theorem row_slice {w : World} {base e s : Nat} {v : Value} {n : Nat} {xs : List Value} (h : w.ownsRow base e s v n xs) : ∃ a c, v = .slice a n c := by
  rcases h.2 with ⟨h1, h2⟩ | ⟨g, cap, cur, h1, -⟩
  · subst h2; exact ⟨_, _, h1⟩
  · exact ⟨_, _, h1⟩
theorem row_own {w : World} {base e s : Nat} {v : Value} {n k : Nat} {xs : List Value} (h : w.ownsRow base e s v n xs) (hk : v.ownBlock = some k) : base ≤ k := by
  rcases h.2 with ⟨h1, -⟩ | ⟨g, cap, cur, h1, h2, -⟩
  · rw [h1] at hk; cases hk
  · rw [h1] at hk; cases hk; exact h2
theorem one_at {W : World} {g : Nat} {x : Value} (h : Cs W g #[x]) : ∀ j u, ([x] : List Value)[j]? = some u → W.cell? ((⟨g, 0, none⟩ : Addr).add j) = some u := fun j u hu => by
  rw [Go.WideShapes.add_plain, Nat.zero_add]
  exact h.c j (by simpa using hu)
set_option maxRecDepth 100000 in
set_option maxHeartbeats 4000000 in
theorem above_any (v : Value) (row : List Int) (w : World) (h : IntsAt w v row) (h9 : row.length ≤ 1000) :
    Calls Try.prog 77 #[v] w fun e w' => ∃ r, e = .returned r ∧ w'.ownsRow w.heap.size 3 1 r (upR row).length ((upR row).map (Value.int .i64)) ∧ Below w.heap.size w w' := by
  have H := Lib.hid h
  obtain ⟨a, cap, rfl, hm, hc⟩ := h
  clear hm hc
  obtain ⟨i0, hi, hz0, hz1, hz2⟩ := info_parts infoInt
  go_enter Try.func77, Try.ntmps77
  obtain ⟨m, hm⟩ : ∃ m, row.length / 2 = m := ⟨_, rfl⟩
  have hq : (row.length : Int).tdiv 2 = (m : Int) := by rw [Int.tdiv_eq_ediv_of_nonneg (by omega)]; omega
  have hw : wrap64 (m : Int) = (m : Int) := IntWalk.wrap64_in _ (by omega)
  go_wp2_with fail
  clear hq hw
  go_loopw [3, 8] (fun nv i wr => ∃ k : Nat, k ≤ m ∧ i = .int .i64 k ∧ Hid (wr.ownsRow w.heap.size 3 1 nv k (((pairs row).take k).map (Value.int .i64))) ∧ Hid (Below w.heap.size w wr)) (fun _ i _ => m - (intOf i).toNat)
  case atStart => exact ⟨0, by omega, rfl, Lib.hid (by rw [List.take_zero]; exact World.ownsRow_nil _ _ _ _), Lib.hid (Below.refl _ _)⟩
  case round =>
    obtain ⟨k, hk, rfl, HR, HW⟩ := hrel
    by_cases hlt : k < m
    · obtain ⟨na, nc, rfl⟩ := row_slice HR.out
      obtain ⟨a2, cap2, hva, -, hcs⟩ := H.out.step HW.out
      obtain ⟨rfl, rfl⟩ : a = a2 ∧ cap = cap2 := by simpa using hva
      obtain ⟨b, off, rfl, hcs2⟩ := hcs (by intro h; rw [h] at hm; simp at hm; omega)
      have x0 := hcs2 (2 * k) _ (getD_of (show 2 * k < row.length by omega))
      have x1 := hcs2 (2 * k + 1) _ (getD_of (show 2 * k + 1 < row.length by omega))
      clear hcs hcs2 hva
      have HT := Lib.hid (pairs_take (row := row) (k := k) (by omega))
      have hd1 : (((2 : Int) * k)).toNat = 2 * k := by omega
      have hd2 : (((2 : Int) * k + 1)).toNat = 2 * k + 1 := by omega
      have hw1 : wrap64 (2 * (k : Int)) = 2 * k := IntWalk.wrap64_in _ (by omega)
      have hw2 : wrap64 (2 * (k : Int) + 1) = 2 * k + 1 := IntWalk.wrap64_in _ (by omega)
      have hlt1 : 2 * k < row.length := by omega
      have hlt2 : 2 * k + 1 < row.length := by omega
      generalize row.getD (2 * k) 0 = x at *
      generalize row.getD (2 * k + 1) 0 = y at *
      go_wp2_with fail
      have q1 : IntKind.i64.wrap (2 * (k : Int)) = 2 * k := IntWalk.i64_in _ (by omega)
      have q2 : IntKind.i64.wrap (2 * (k : Int) + 1) = 2 * k + 1 := IntWalk.i64_in _ (by omega)
      have q3 : 0 ≤ 2 * (k : Int) := by omega
      have q4 : 2 * (k : Int) < row.length := by omega
      have q5 : 0 ≤ 2 * (k : Int) + 1 := by omega
      have q6 : 2 * (k : Int) + 1 < row.length := by omega
      obtain ⟨nx, hnx⟩ : ∃ z, Dg [1, x, y] = z := ⟨_, rfl⟩
      have HI3 := Lib.hid (show ∀ w', w' = (wr.alloc (.cells #[.int .i64 1, .int .i64 x, .int .i64 y] 3)).drew → Calls Try.prog 62 #[.slice (some ⟨wr.heap.size, 0, none⟩) 3 3] w' fun e w'' => e = .returned (.int .i64 nx) ∧ w' = w'' from fun w' h => by
        subst h; rw [← hnx]
        exact digest_any _ [1, x, y] _ ((ints_lit wr [1, x, y] _ 3 rfl (by simp) 3 rfl _ rfl).step (below_drew _ _)))
      replace hnx := Lib.hid hnx
      have hbw := Lib.hid (show Below wr.heap.size wr ((wr.alloc (.cells #[.int .i64 1, .int .i64 x, .int .i64 y] 3)).alloc (.cells #[.int .i64 nx] 3)).drew from al2.trans (below_drew _ _))
      have hn1 := Lib.hid (show Cs ((wr.alloc (.cells #[.int .i64 1, .int .i64 x, .int .i64 y] 3)).alloc (.cells #[.int .i64 nx] 3)).drew (wr.heap.size + 1) #[.int .i64 nx] from (Cs.new _ _ _ _ (by simp)).step (below_drew _ _))
      have c1 : k + 1 ≤ maxLen := by unfold maxLen; omega
      have c2 : (k + 1) * 8 ≤ 140737488355328 := by omega
      have c3 := Lib.hid HW.out.size
      go_region_law (first | (go_simp; go_at_call 62; refine (HI3.out _ rfl).mono ?_; rintro e w3 ⟨rfl, rfl⟩) | (refine step_append_lies _ rfl _ _ 22 rfl w.heap.size 3 i0 (.int .i64 0) 1 8 Try.underlying22 hi hz0 hz1 hz2 rfl (by decide) _ _ _ rfl (row_step HR.out hbw.out) ⟨wr.heap.size + 1, 0, none⟩ 1 1 [.int .i64 nx] rfl rfl (one_at hn1.out) (by simp [Value.oneCell']) (by decide) c1 c2 (Nat.le_trans c3.out hbw.out.size) _ rfl ?_; intro g' cap' w1 hown' hgrow _ _; have HR1 := Lib.hid hown'; have HB1 := Lib.hid ((HW.out.trans (hbw.out.mono c3.out)).grown hgrow (Nat.le_trans c3.out hbw.out.size) (fun k e => row_own (row_step HR.out hbw.out) e)); clear hown' hgrow))
      all_goals clear q1 q2 q3 q4 q5 q6 x0 x1
      all_goals go_wp2
      all_goals go_roundw
      all_goals first | exact ⟨k + 1, hlt, by go_num, Lib.hid (by rw [HT.out, List.map_append, List.map_cons, List.map_nil, show nd x y = nx from hnx.out]; exact HR1.out), HB1⟩ | (simp [intOf]; omega)
    · obtain rfl : k = m := by omega
      obtain ⟨na, nc, rfl⟩ := row_slice HR.out
      have HR9 := Lib.hid (show wr.ownsRow w.heap.size 3 1 (.slice na k nc) k ((pairs row).map (Value.int .i64)) from by
        have h := HR.out
        rwa [List.take_of_length_le (by rw [pairs_len]; omega)] at h)
      clear HR
      have hq : (row.length : Int).tmod 2 = ((row.length % 2 : Nat) : Int) := by rw [Int.tmod_eq_emod_of_nonneg (by omega)]; omega
      rcases Nat.mod_two_eq_zero_or_one row.length with h0 | h0
      · rw [h0] at hq
        have hr : (row.length : Int) % 2 = 0 := by omega
        have HE := Lib.hid (show upR row = pairs row by unfold upR; rw [if_neg (by omega), List.append_nil])
        go_wp2
        go_ret
        exact ⟨_, rfl, by rw [HE.out, pairs_len, hm]; exact HR9.out, HW.out⟩
      · rw [h0] at hq
        have hr : (row.length : Int) % 2 = 1 := by omega
        obtain ⟨a2, cap2, hva, -, hcs⟩ := H.out.step HW.out
        obtain ⟨rfl, rfl⟩ : a = a2 ∧ cap = cap2 := by simpa using hva
        obtain ⟨b, off, rfl, hcs2⟩ := hcs (by intro h; rw [h] at h0; simp at h0)
        have x0 := hcs2 (row.length - 1) _ (getD_of (show row.length - 1 < row.length by omega))
        clear hcs hcs2 hva
        have HE := Lib.hid (show upR row = pairs row ++ [row.getD (row.length - 1) 0] by unfold upR; rw [if_pos h0])
        have HL := Lib.hid (show (upR row).length = k + 1 by rw [upR_len]; omega)
        generalize row.getD (row.length - 1) 0 = x at *
        have e1 : wrap64 ((row.length : Int) - 1) = row.length - 1 := IntWalk.wrap64_in _ (by omega)
        have e2 : ((row.length : Int) - 1).toNat = row.length - 1 := by omega
        have e3 : 0 ≤ (row.length : Int) - 1 := by omega
        have e4 : (row.length : Int) - 1 < row.length := by omega
        have hbw := Lib.hid (al wr (.cells #[.int .i64 x] 3))
        have c3 := Lib.hid HW.out.size
        go_wp2_with (at_builtin; refine wpList_append_own _ rfl _ _ 22 rfl w.heap.size 3 i0 (.int .i64 0) 1 8 Try.underlying22 hi hz0 hz1 hz2 rfl (by decide) _ _ _ rfl (row_step HR9.out hbw.out) ⟨wr.heap.size, 0, none⟩ 1 1 [.int .i64 x] rfl rfl (one_at (Cs.new _ _ _ _ (by simp))) (by simp [Value.oneCell']) (by unfold maxLen; omega) (by omega) (by simp; have := c3.out; omega) ?_; intro v' w1 hown' hgrow _; have HR1 := Lib.hid hown'; have HB1 := Lib.hid ((HW.out.trans (hbw.out.mono c3.out)).grown hgrow (Nat.le_trans c3.out hbw.out.size) (fun k e => row_own (row_step HR9.out hbw.out) e)); clear hown' hgrow)
        go_ret
        exact ⟨_, rfl, by rw [HE.out, ← HE.out, HL.out, HE.out, List.map_append]; exact HR1.out, HB1.out⟩
end Go.Proofs.Yteodafhgfcbdpaa
