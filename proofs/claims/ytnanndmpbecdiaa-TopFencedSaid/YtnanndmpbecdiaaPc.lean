import Derived.Deep.CutBlock
import Derived.Deep.CutRange
import Derived.Test.YtnanndmpbecdiaaPb
import Derived.Test.YtnanndmpbecdiaaVl
namespace Go.Proofs.Ytnanndmpbecdiaa
open Go.RowKit

theorem vos_cs {w : World} {k : Nat} (h : Cs w k #[.int .i64 0, .int .i64 0, .int .i64 0, .int .i64 0, .int .i64 0, .int .i64 0, .int .i64 0, .int .i64 0, .int .i64 0]) : VosAt w (.slice (some ⟨k, 0, none⟩) 3 3) [zV, zV, zV] := by
  refine ⟨_, _, rfl, by simp [maxLen], fun _ => ⟨k, 0, rfl, fun i x hi => ?_⟩⟩
  match i, hi with
  | 0, hi => obtain rfl : zV = x := by simpa using hi
             exact ⟨h.c 0 rfl, h.c 1 rfl, h.c 2 rfl⟩
  | 1, hi => obtain rfl : zV = x := by simpa using hi
             exact ⟨h.c 3 rfl, h.c 4 rfl, h.c 5 rfl⟩
  | 2, hi => obtain rfl : zV = x := by simpa using hi
             exact ⟨h.c 6 rfl, h.c 7 rfl, h.c 8 rfl⟩
  | i + 3, hi => simp at hi
theorem hmk25 : ∀ w, (Instr.makeSlice 25 (.int .i64 3) (.int .i64 3)).run Try.prog w = .ok (.slice (some ⟨w.heap.size, 0, none⟩) 3 3) (w.alloc (.cells #[.int .i64 0, .int .i64 0, .int .i64 0, .int .i64 0, .int .i64 0, .int .i64 0, .int .i64 0, .int .i64 0, .int .i64 0] 37)) := fun _ => by kernel_rfl
theorem holds_l (h f u now : Int) (b : Bool) (hb : hoB f u now = b) (w : World) : Calls Try.prog 8 #[.agg #[.int .i64 h, .int .i64 f, .int .i64 u], .int .i64 now] w fun e w' => e = .returned (.bool b) ∧ Below w.heap.size w w' := by
  subst hb
  exact holds_any h f u now w
theorem tn_get {w : World} {a : Option Addr} {n c : Nat} {l : List Tn} (h : TnsAt w (.slice a n c) l) {k : Nat} (hk : k < l.length) : ∃ b o, a = some ⟨b, o, none⟩ ∧ w.cell? ⟨b, o + k * 6, none⟩ = some (.int .u8 (l.getD k zT).d) ∧ w.cell? ⟨b, o + k * 6 + 1, none⟩ = some (.int .u8 (l.getD k zT).h) ∧ w.cell? ⟨b, o + k * 6 + 2, none⟩ = some (.int .u8 (l.getD k zT).a) ∧ w.cell? ⟨b, o + k * 6 + 3, none⟩ = some (.int .u8 (l.getD k zT).t) ∧ w.cell? ⟨b, o + k * 6 + 4, none⟩ = some (.int .u8 (l.getD k zT).l) ∧ w.cell? ⟨b, o + k * 6 + 5, none⟩ = some (.int .u8 (l.getD k zT).w) := by
  obtain ⟨a1, c1, hv1, -, hcs1⟩ := h
  obtain ⟨rfl, -⟩ : a = a1 ∧ n = l.length ∧ c = c1 := by simpa using hv1
  obtain ⟨b1, o1, rfl, hx1⟩ := hcs1 (by intro e; rw [e] at hk; simp at hk)
  have hq := hx1 k (l.getD k zT) (by simp [hk])
  exact ⟨b1, o1, rfl, hq 0 _ rfl, hq 1 _ rfl, hq 2 _ rfl, hq 3 _ rfl, hq 4 _ rfl, hq 5 _ rfl⟩
/-- The numbers of a run. -/
structure RI (i : Nat) (L : List Vo) (G : List Go1) (now : Int) (S : Nat → Ls) (t : Int) (W : List Bool) (li : List Int) (dn : Int) (q : Nat) : Prop where
  ti : TI i L G now S
  wf : WF t W
  li : li.length = 1
  dn : 0 ≤ dn ∧ dn ≤ 1000002
  q : q ≤ i
theorem RI.len {i : Nat} {L : List Vo} {G : List Go1} {now : Int} {S : Nat → Ls} {t : Int} {W : List Bool} {li : List Int} {dn : Int} {q : Nat} (h : RI i L G now S t W li dn q) : L.length = 3 := h.ti.inv.len
theorem RI.start : RI 0 [zV, zV, zV] [] 0 (fun _ => ⟨0, 0, 0⟩) (-1) (List.replicate 16 false) [0] 0 0 := ⟨TI.start, wf_new, rfl, by decide, Nat.le_refl _⟩
theorem mod3 {x : Int} (_ : 0 ≤ x) : ∃ k : Nat, x % 3 = k ∧ k < 3 := ⟨(x % 3).toNat, by omega, by omega⟩
theorem mod_nat {n : Int} {len : Nat} (_ : 0 ≤ n) (hl : 0 < len) : ∃ k : Nat, n % (len : Int) = k ∧ k < len :=
  ⟨(n % (len : Int)).toNat, by have := Int.emod_nonneg n (show (len : Int) ≠ 0 by omega); omega, by have := Int.emod_lt_of_pos n (show (0 : Int) < (len : Int) by omega); have := Int.emod_nonneg n (show (len : Int) ≠ 0 by omega); omega⟩
theorem meas_any {i : Nat} {n : Nat} (h : i < n) (_ : n ≤ 80) : n - (intOf (.int .i64 ((i : Int) + 1))).toNat < n - (intOf (.int .i64 (i : Int))).toNat := by
  show n - ((i : Int) + 1).toNat < n - ((i : Int)).toNat
  omega
theorem vo_slice {w : World} {r : Value} {V : List Vo} (h : VosAt w r V) : ∃ a c, r = .slice a V.length c := by
  obtain ⟨a, c, e, -⟩ := h; exact ⟨a, c, e⟩
theorem new_far {w : World} {a : Option Addr} {n c : Nat} (h : New w (.slice a n c)) : ∀ g o, a = some ⟨g, o, none⟩ → w.heap.size ≤ g := fun g o e => by
  subst e; exact h g rfl
set_option maxRecDepth 100000 in
set_option maxHeartbeats 8000000 in
theorem fenced_no (vl : Value) (l : List Tn) (w : World) (h : TnsAt w vl l) (hok : ∀ x ∈ l, x.ok) (hl : 80 < l.length) :
    Calls Try.prog 3 #[vl] w fun e w' => e = .returned (.bool true) ∧ Below w.heap.size w w' := by
  have H0 := Lib.hid (Below.refl w.heap.size w)
  have HK := Lib.hid h
  obtain ⟨ta, tc, rfl, -, -⟩ := h
  have HOK := Lib.hid hok
  clear hok
  go_enter Try.func3, Try.ntmps3
  go_wp2_with fail
  refine (leased_any _).mono ?_
  rintro e u1 ⟨rfl, b1⟩
  have H1 := Lib.hid (keep2 b1 H0.out)
  clear H0
  clear b1
  have hg : (80 : Int) < (l.length : Int) := by omega
  go_wp2
  go_ret
  exact ⟨rfl, H1.out⟩
set_option maxRecDepth 100000 in
set_option maxHeartbeats 8000000 in
theorem fenced_go (vl : Value) (l : List Tn) (w : World) (h : TnsAt w vl l) (hok : ∀ x ∈ l, x.ok) (hl : ¬ 80 < l.length) :
    Calls Try.prog 3 #[vl] w fun e w' => e = .returned (.bool true) ∧ Below w.heap.size w w' := by
  have H0 := Lib.hid (Below.refl w.heap.size w)
  have HK := Lib.hid h
  obtain ⟨ta, tc, rfl, -, -⟩ := h
  have HOK := Lib.hid hok
  clear hok
  have hmk := hmk3
  have hmk2 := hmk25
  go_enter Try.func3, Try.ntmps3
  go_wp2_with fail
  refine (leased_any _).mono ?_
  rintro e u1 ⟨rfl, b1⟩
  have H1 := Lib.hid (keep2 b1 H0.out)
  clear H0
  clear b1
  have hg : ¬ (80 : Int) < (l.length : Int) := by omega
  have H9 := Lib.hid (show l.length ≤ 80 by omega)
  have HKU := Lib.hid H1.out.size
  have H2 := Lib.hid (keep2 (al u1 (.cells #[.int .i64 0, .int .i64 0, .int .i64 0, .int .i64 0, .int .i64 0, .int .i64 0, .int .i64 0, .int .i64 0, .int .i64 0] 64)) H1.out)
  clear H1
  have H3 := Lib.hid (Cs.new u1 (u1.heap.size) #[.int .i64 0, .int .i64 0, .int .i64 0, .int .i64 0, .int .i64 0, .int .i64 0, .int .i64 0, .int .i64 0, .int .i64 0] 64 (by simp))
  have H4 := Lib.hid (H3.out.step (al (u1.alloc (.cells #[.int .i64 0, .int .i64 0, .int .i64 0, .int .i64 0, .int .i64 0, .int .i64 0, .int .i64 0, .int .i64 0, .int .i64 0] 64)) (.cells #[.int .i64 0, .int .i64 0, .int .i64 0, .int .i64 0, .int .i64 0, .int .i64 0, .int .i64 0, .int .i64 0, .int .i64 0] 37)))
  clear H3
  have H5 := Lib.hid (keep2 (al (u1.alloc (.cells #[.int .i64 0, .int .i64 0, .int .i64 0, .int .i64 0, .int .i64 0, .int .i64 0, .int .i64 0, .int .i64 0, .int .i64 0] 64)) (.cells #[.int .i64 0, .int .i64 0, .int .i64 0, .int .i64 0, .int .i64 0, .int .i64 0, .int .i64 0, .int .i64 0, .int .i64 0] 37)) H2.out)
  clear H2
  have H6 := Lib.hid (Cs.new (u1.alloc (.cells #[.int .i64 0, .int .i64 0, .int .i64 0, .int .i64 0, .int .i64 0, .int .i64 0, .int .i64 0, .int .i64 0, .int .i64 0] 64)) (u1.heap.size + 1) #[.int .i64 0, .int .i64 0, .int .i64 0, .int .i64 0, .int .i64 0, .int .i64 0, .int .i64 0, .int .i64 0, .int .i64 0] 37 (by simp))
  have HI0 := Lib.hid (ints_lit ((u1.alloc (.cells #[.int .i64 0, .int .i64 0, .int .i64 0, .int .i64 0, .int .i64 0, .int .i64 0, .int .i64 0, .int .i64 0, .int .i64 0] 64)).alloc (.cells #[.int .i64 0, .int .i64 0, .int .i64 0, .int .i64 0, .int .i64 0, .int .i64 0, .int .i64 0, .int .i64 0, .int .i64 0] 37)) [0] #[.int .i64 0] 3 rfl (by decide) 1 rfl (u1.heap.size + 1 + 1) (by simp))
  have H7 := Lib.hid (H4.out.step (al ((u1.alloc (.cells #[.int .i64 0, .int .i64 0, .int .i64 0, .int .i64 0, .int .i64 0, .int .i64 0, .int .i64 0, .int .i64 0, .int .i64 0] 64)).alloc (.cells #[.int .i64 0, .int .i64 0, .int .i64 0, .int .i64 0, .int .i64 0, .int .i64 0, .int .i64 0, .int .i64 0, .int .i64 0] 37)) (.cells #[.int .i64 0] 3)))
  clear H4
  have H8 := Lib.hid (H6.out.step (al ((u1.alloc (.cells #[.int .i64 0, .int .i64 0, .int .i64 0, .int .i64 0, .int .i64 0, .int .i64 0, .int .i64 0, .int .i64 0, .int .i64 0] 64)).alloc (.cells #[.int .i64 0, .int .i64 0, .int .i64 0, .int .i64 0, .int .i64 0, .int .i64 0, .int .i64 0, .int .i64 0, .int .i64 0] 37)) (.cells #[.int .i64 0] 3)))
  clear H6
  have H9 := Lib.hid (keep2 (al ((u1.alloc (.cells #[.int .i64 0, .int .i64 0, .int .i64 0, .int .i64 0, .int .i64 0, .int .i64 0, .int .i64 0, .int .i64 0, .int .i64 0] 64)).alloc (.cells #[.int .i64 0, .int .i64 0, .int .i64 0, .int .i64 0, .int .i64 0, .int .i64 0, .int .i64 0, .int .i64 0, .int .i64 0] 37)) (.cells #[.int .i64 0] 3)) H5.out)
  clear H5
  have H10 := Lib.hid (Cs.new ((u1.alloc (.cells #[.int .i64 0, .int .i64 0, .int .i64 0, .int .i64 0, .int .i64 0, .int .i64 0, .int .i64 0, .int .i64 0, .int .i64 0] 64)).alloc (.cells #[.int .i64 0, .int .i64 0, .int .i64 0, .int .i64 0, .int .i64 0, .int .i64 0, .int .i64 0, .int .i64 0, .int .i64 0] 37)) (u1.heap.size + 1 + 1) #[.int .i64 0] 3 (by simp))
  go_wp2_with fail
  refine (newrc_ok _ [0] (by decide) _ HI0.out (by decide)).mono ?_
  rintro e u2 ⟨cc, vc0, aa, va0, rfl, -, hbs, hin, b2, hf1, hf2⟩
  have H11 := Lib.hid (H7.out.step b2)
  clear H7
  have H12 := Lib.hid (H8.out.step b2)
  clear H8
  have H13 := Lib.hid (H10.out.step b2)
  clear H10
  have H14 := Lib.hid (HI0.out.step b2)
  clear HI0
  have H15 := Lib.hid (keep2 b2 H9.out)
  clear H9
  clear b2
  rw [show (((u1.alloc (.cells #[.int .i64 0, .int .i64 0, .int .i64 0, .int .i64 0, .int .i64 0, .int .i64 0, .int .i64 0, .int .i64 0, .int .i64 0] 64)).alloc (.cells #[.int .i64 0, .int .i64 0, .int .i64 0, .int .i64 0, .int .i64 0, .int .i64 0, .int .i64 0, .int .i64 0, .int .i64 0] 37)).alloc (.cells #[.int .i64 0] 3)).heap.size = u1.heap.size + 1 + 1 + 1 by simp] at hf1 hf2
  have HQ1 := Lib.hid hf1
  have HQ2 := Lib.hid hf2
  have HQ3 := Lib.hid (bos_ltA hbs (by decide))
  have HQ4 := Lib.hid (ints_ltA hin (by decide))
  clear hf1 hf2
  have H16 := Lib.hid (hbs)
  have H17 := Lib.hid (hin)
  clear hbs hin
  have HLR := Lib.hid (show u1.heap.size + 1 < u2.heap.size from H12.out.2.2)
  have H18 := Lib.hid (H11.out.step (al u2 (.cells #[.int .i64 (-1), .slice aa 16 cc, .int .i64 0, .slice va0 1 vc0, .int .i64 0] 31)))
  clear H11
  have H19 := Lib.hid (H12.out.step (al u2 (.cells #[.int .i64 (-1), .slice aa 16 cc, .int .i64 0, .slice va0 1 vc0, .int .i64 0] 31)))
  clear H12
  have H20 := Lib.hid (H13.out.step (al u2 (.cells #[.int .i64 (-1), .slice aa 16 cc, .int .i64 0, .slice va0 1 vc0, .int .i64 0] 31)))
  clear H13
  have H21 := Lib.hid (H14.out.step (al u2 (.cells #[.int .i64 (-1), .slice aa 16 cc, .int .i64 0, .slice va0 1 vc0, .int .i64 0] 31)))
  clear H14
  have H22 := Lib.hid (H16.out.step (al u2 (.cells #[.int .i64 (-1), .slice aa 16 cc, .int .i64 0, .slice va0 1 vc0, .int .i64 0] 31)))
  clear H16
  have H23 := Lib.hid (H17.out.step (al u2 (.cells #[.int .i64 (-1), .slice aa 16 cc, .int .i64 0, .slice va0 1 vc0, .int .i64 0] 31)))
  clear H17
  have H24 := Lib.hid (keep2 (al u2 (.cells #[.int .i64 (-1), .slice aa 16 cc, .int .i64 0, .slice va0 1 vc0, .int .i64 0] 31)) H15.out)
  clear H15
  have H25 := Lib.hid (Cs.new u2 (u2.heap.size) #[.int .i64 (-1), .slice aa 16 cc, .int .i64 0, .slice va0 1 vc0, .int .i64 0] 31 (by simp))
  go_wp2_with fail
  obtain ⟨U, hU⟩ : ∃ z, (u2.alloc (.cells #[.int .i64 (-1), .slice aa 16 cc, .int .i64 0, .slice va0 1 vc0, .int .i64 0] 31)) = z := ⟨_, rfl⟩
  have HUS := Lib.hid (show U.heap.size = u2.heap.size + 1 by rw [← hU]; simp)
  rw [hU] at H18 H19 H20 H21 H22 H23 H25 H24 ⊢
  clear hU
  obtain ⟨kv, hkv⟩ : ∃ z, u1.heap.size = z := ⟨_, rfl⟩
  obtain ⟨kl, hkl⟩ : ∃ z, kv + 1 = z := ⟨_, rfl⟩
  obtain ⟨kr, hkr⟩ : ∃ z, u2.heap.size = z := ⟨_, rfl⟩
  rw [hkv] at HKU HQ1 HQ2 H18 H19 ⊢
  rw [hkl] at H19 ⊢
  rw [hkr] at HUS HQ3 HQ4 HLR H25 ⊢
  rw [hkv] at HLR
  obtain ⟨base, hbase⟩ : ∃ z, U.heap.size = z := ⟨_, rfl⟩
  have HNUM := Lib.hid (show (kl < base ∧ kr < base) ∧ kl ≠ kr ∧ kv ≠ kl ∧ kv ≠ kr ∧ w.heap.size ≤ kl ∧ w.heap.size ≤ kr ∧ w.heap.size ≤ base by have h1 := HUS.out; have h2 := HKU.out; have h3 := HLR.out; omega)
  have hwt : WD base kl kr (some ⟨kv, 0, none⟩) 3 [zV, zV, zV] (fun _ => ⟨0, 0, 0⟩) (-1) (List.replicate 16 false) 0 [0] 0 none 0 [] U := ⟨vos_cs H18.out, ⟨fun g o g' o' e e' => (by cases e'), fun g o e => by cases e; exact HNUM.out.2.2.1, fun g o e => by cases e; exact HNUM.out.2.2.2.1⟩, H19.out, ⟨aa, cc, va0, vc0, H25.out, H22.out, H23.out, ⟨fun g o g' o' e e' => (by cases e'), fun g o e => by have := HQ1.out g o e; omega, fun g o e => by have := HQ3.out g o e; omega⟩, ⟨fun g o g' o' e e' => (by cases e'), fun g o e => by have := HQ2.out g o e; omega, fun g o e => by have := HQ4.out g o e; omega⟩⟩, World.ownsRow_nil U base 44 5, by omega, HNUM.out.1, HNUM.out.2.1⟩
  have HLO := Lib.hid (show w.heap.size ≤ kl ∧ w.heap.size ≤ kr by have := HNUM.out; omega)
  have HLB := Lib.hid (show w.heap.size ≤ base by have := HNUM.out; omega)
  have HWT0 := Lib.hid hwt
  have HB0 := H24
  clear hwt hkv hkl hkr hbase HKU HQ1 HQ2 HQ3 HQ4 HUS HLR HNUM H18 H19 H20 H21 H22 H23 H25
  go_loopw [4, 7, 8, 9, 10] (fun vv sv nv tv iv wr => ∃ i : Nat, i ≤ l.length ∧ iv = .int .i64 (i : Int) ∧ ∃ (va : Option Addr) (vc : Nat) (L : List Vo) (G : List Go1) (now : Int) (S : Nat → Ls) (t : Int) (W : List Bool) (f : Int) (li : List Int) (dn : Int) (sa : Option Addr) (sc : Nat) (Q : List Sn), vv = .slice va L.length vc ∧ sv = .slice sa Q.length sc ∧ nv = .int .i64 now ∧ tv = .int .i64 f ∧ Hid (RI i L G now S t W li dn Q.length) ∧ Hid (WD base kl kr va vc L S t W f li dn sa sc Q wr) ∧ Hid (Below w.heap.size w wr)) (fun _ _ _ _ iv _ => l.length - (intOf iv).toNat)
  case atStart => exact ⟨0, by omega, rfl, some ⟨kv, 0, none⟩, 3, [zV, zV, zV], [], 0, fun _ => ⟨0, 0, 0⟩, -1, List.replicate 16 false, 0, [0], 0, none, 0, [], rfl, rfl, rfl, rfl, Lib.hid RI.start, HWT0, HB0⟩
  case round =>
    clear hmk hmk2
    obtain ⟨i, hi, rfl, va, vc, L, G, now, S, t, W, f, li, dn, sa, sc, Q, rfl, rfl, rfl, rfl, HRI, HT, HW⟩ := hrel
    clear HWT0 HB0
    by_cases hlt : i < l.length
    rotate_left
    · obtain rfl : i = l.length := by omega
      go_wp2
      go_ret
      exact ⟨rfl, HW.out⟩
    have HIL := Lib.hid (show i + 1 ≤ l.length from hlt)
    obtain ⟨bk, ok, rfl, y0, y1, y2, y3, y4, y5⟩ := tn_get (HK.out.step HW.out) hlt
    have yz := World.block_lt_of_cell? _ _ y0
    have t1 : (i : Int) < (l.length : Int) := by omega
    obtain ⟨o0, o1, o2, o3, o4, o5⟩ := HOK.out (l.getD i zT) (by simp [hlt])
    obtain ⟨x, hx⟩ : ∃ z9, l.getD i zT = z9 := ⟨_, rfl⟩
    rw [hx] at y0 y1 y2 y3 y4 y5 o0 o1 o2 o3 o4 o5
    clear hx
    obtain ⟨xd, xh, xa, xt, xl, xw⟩ := x
    dsimp only at y0 y1 y2 y3 y4 y5 o0 o1 o2 o3 o4 o5
    unfold u8k at o0 o1 o2 o3 o4 o5
    obtain ⟨o00, o01⟩ := o0
    obtain ⟨o10, o11⟩ := o1
    obtain ⟨o20, o21⟩ := o2
    obtain ⟨o30, o31⟩ := o3
    obtain ⟨o40, o41⟩ := o4
    obtain ⟨o50, o51⟩ := o5
    have HT0 := Lib.hid (And.intro o30 o31)
    have HL0 := Lib.hid (And.intro o40 o41)
    have HW0 := Lib.hid o50
    have hnw := HRI.out.ti.inv.tim
    have w1 : wrap64 (now + xt) = now + xt := IntWalk.wrap64_in _ (by omega)
    have w2 : wrap64 (1 + xl) = 1 + xl := IntWalk.wrap64_in _ (by omega)
    have HT9 := Lib.hid (show now ≤ now + xt by omega)
    obtain ⟨n2, hn2⟩ : ∃ z9, now + xt = z9 := ⟨_, rfl⟩
    have HN2 := Lib.hid hn2
    rw [hn2] at HT9
    clear hn2
    obtain ⟨kh, hkh, hk3⟩ := mod3 o10
    have HKH := Lib.hid hk3
    clear hk3
    have H301 := Lib.hid (HT.out.step (al wr (.cells #[.int .u8 xd, .int .u8 xh, .int .u8 xa, .int .u8 xt, .int .u8 xl, .int .u8 xw] 35)))
    clear HT
    have H302 := Lib.hid (keep2 (al wr (.cells #[.int .u8 xd, .int .u8 xh, .int .u8 xa, .int .u8 xt, .int .u8 xl, .int .u8 xw] 35)) HW.out)
    clear HW
    have H303 := Lib.hid (Cs.new wr (wr.heap.size) #[.int .u8 xd, .int .u8 xh, .int .u8 xa, .int .u8 xt, .int .u8 xl, .int .u8 xw] 35 (by simp))
    have xt0 : (wr.alloc (.cells #[.int .u8 xd, .int .u8 xh, .int .u8 xa, .int .u8 xt, .int .u8 xl, .int .u8 xw] 35)).cell? ⟨(wr.heap.size), 0, none⟩ = some (.int .u8 xd) := H303.out.c 0 rfl
    have xt1 : (wr.alloc (.cells #[.int .u8 xd, .int .u8 xh, .int .u8 xa, .int .u8 xt, .int .u8 xl, .int .u8 xw] 35)).cell? ⟨(wr.heap.size), 1, none⟩ = some (.int .u8 xh) := H303.out.c 1 rfl
    have xt2 : (wr.alloc (.cells #[.int .u8 xd, .int .u8 xh, .int .u8 xa, .int .u8 xt, .int .u8 xl, .int .u8 xw] 35)).cell? ⟨(wr.heap.size), 2, none⟩ = some (.int .u8 xa) := H303.out.c 2 rfl
    have xt3 : (wr.alloc (.cells #[.int .u8 xd, .int .u8 xh, .int .u8 xa, .int .u8 xt, .int .u8 xl, .int .u8 xw] 35)).cell? ⟨(wr.heap.size), 3, none⟩ = some (.int .u8 xt) := H303.out.c 3 rfl
    have xt4 : (wr.alloc (.cells #[.int .u8 xd, .int .u8 xh, .int .u8 xa, .int .u8 xt, .int .u8 xl, .int .u8 xw] 35)).cell? ⟨(wr.heap.size), 4, none⟩ = some (.int .u8 xl) := H303.out.c 4 rfl
    have xt5 : (wr.alloc (.cells #[.int .u8 xd, .int .u8 xh, .int .u8 xa, .int .u8 xt, .int .u8 xl, .int .u8 xw] 35)).cell? ⟨(wr.heap.size), 5, none⟩ = some (.int .u8 xw) := H303.out.c 5 rfl
    have zt : (wr.heap.size) < (wr.alloc (.cells #[.int .u8 xd, .int .u8 xh, .int .u8 xa, .int .u8 xt, .int .u8 xl, .int .u8 xw] 35)).heap.size := H303.out.2.2
    go_upto_block 2 with fail
    clear xt0 xt1 xt2 xt3 xt4 xt5 zt
    clear y0 y1 y2 y3 y4 y5 yz t1 hi
    rw [HN2.out, hkh]
    clear hkh w1
    go_cut [4, 7, 9] from 53 to 54 (fun vv sv tv wr => ∃ (va : Option Addr) (vc : Nat) (L : List Vo) (G : List Go1) (S : Nat → Ls) (t : Int) (W : List Bool) (f : Int) (li : List Int) (dn : Int) (sa : Option Addr) (sc : Nat) (Q : List Sn), vv = .slice va L.length vc ∧ sv = .slice sa Q.length sc ∧ tv = .int .i64 f ∧ Hid (RI (i + 1) L G n2 S t W li dn Q.length) ∧ Hid (WD base kl kr va vc L S t W f li dn sa sc Q wr) ∧ Hid (Below w.heap.size w wr))
    case first =>
      have hr3 : xd % 3 = 0 ∨ xd % 3 = 1 ∨ xd % 3 = 2 := by omega
      rcases hr3 with hr3 | hr3 | hr3
      · skip
        have xt0 : (wr.alloc (.cells #[.int .u8 xd, .int .u8 xh, .int .u8 xa, .int .u8 xt, .int .u8 xl, .int .u8 xw] 35)).cell? ⟨(wr.heap.size), 0, none⟩ = some (.int .u8 xd) := H303.out.c 0 rfl
        have xt1 : (wr.alloc (.cells #[.int .u8 xd, .int .u8 xh, .int .u8 xa, .int .u8 xt, .int .u8 xl, .int .u8 xw] 35)).cell? ⟨(wr.heap.size), 1, none⟩ = some (.int .u8 xh) := H303.out.c 1 rfl
        have xt2 : (wr.alloc (.cells #[.int .u8 xd, .int .u8 xh, .int .u8 xa, .int .u8 xt, .int .u8 xl, .int .u8 xw] 35)).cell? ⟨(wr.heap.size), 2, none⟩ = some (.int .u8 xa) := H303.out.c 2 rfl
        have xt3 : (wr.alloc (.cells #[.int .u8 xd, .int .u8 xh, .int .u8 xa, .int .u8 xt, .int .u8 xl, .int .u8 xw] 35)).cell? ⟨(wr.heap.size), 3, none⟩ = some (.int .u8 xt) := H303.out.c 3 rfl
        have xt4 : (wr.alloc (.cells #[.int .u8 xd, .int .u8 xh, .int .u8 xa, .int .u8 xt, .int .u8 xl, .int .u8 xw] 35)).cell? ⟨(wr.heap.size), 4, none⟩ = some (.int .u8 xl) := H303.out.c 4 rfl
        have xt5 : (wr.alloc (.cells #[.int .u8 xd, .int .u8 xh, .int .u8 xa, .int .u8 xt, .int .u8 xl, .int .u8 xw] 35)).cell? ⟨(wr.heap.size), 5, none⟩ = some (.int .u8 xw) := H303.out.c 5 rfl
        have zt : (wr.heap.size) < (wr.alloc (.cells #[.int .u8 xd, .int .u8 xh, .int .u8 xa, .int .u8 xt, .int .u8 xl, .int .u8 xw] 35)).heap.size := H303.out.2.2
        go_wp2_with fail
        obtain ⟨b0, hb0⟩ : ∃ z9, (xa % 2 == 1) = z9 := ⟨_, rfl⟩
        obtain ⟨b1, hb1⟩ : ∃ z9, (xa / 2 % 2 == 1) = z9 := ⟨_, rfl⟩
        obtain ⟨b2, hb2⟩ : ∃ z9, (xa / 4 % 2 == 1) = z9 := ⟨_, rfl⟩
        rw [hb0, hb1, hb2]
        clear hb0 hb1 hb2
        have HBO := Lib.hid (bos_lit (wr.alloc (.cells #[.int .u8 xd, .int .u8 xh, .int .u8 xa, .int .u8 xt, .int .u8 xl, .int .u8 xw] 35)) [b0, b1, b2] #[.bool b0, .bool b1, .bool b2] 4 rfl (by simp) 3 rfl (wr.heap.size + 1) (by simp))
        have H304 := Lib.hid (H301.out.step (al (wr.alloc (.cells #[.int .u8 xd, .int .u8 xh, .int .u8 xa, .int .u8 xt, .int .u8 xl, .int .u8 xw] 35)) (.cells #[.bool b0, .bool b1, .bool b2] 4)))
        clear H301
        have H305 := Lib.hid (H303.out.step (al (wr.alloc (.cells #[.int .u8 xd, .int .u8 xh, .int .u8 xa, .int .u8 xt, .int .u8 xl, .int .u8 xw] 35)) (.cells #[.bool b0, .bool b1, .bool b2] 4)))
        clear H303
        have H306 := Lib.hid (keep2 (al (wr.alloc (.cells #[.int .u8 xd, .int .u8 xh, .int .u8 xa, .int .u8 xt, .int .u8 xl, .int .u8 xw] 35)) (.cells #[.bool b0, .bool b1, .bool b2] 4)) H302.out)
        clear H302
        have H307 := Lib.hid (Cs.new (wr.alloc (.cells #[.int .u8 xd, .int .u8 xh, .int .u8 xa, .int .u8 xt, .int .u8 xl, .int .u8 xw] 35)) (wr.heap.size + 1) #[.bool b0, .bool b1, .bool b2] 4 (by simp))
        obtain ⟨V, eh, ef, eu, er, hE⟩ := ew_total L [b0, b1, b2] (kh : Int) n2 (1 + xl)
        have HEW := Lib.hid hE
        have HSTP := Lib.hid (step_of (A := [b0, b1, b2]) (d := xt) (ln := 1 + xl) HRI.out.ti.inv (by decide) (by decide) rfl HT0.out.1 (by have := HT0.out.2; omega) (hub := (kh : Int)) (by have := HKH.out; omega) (by have := HL0.out; omega) (by have := HL0.out; omega) (by have := HIL.out; have := H9.out; omega) (by rw [HN2.out]; exact hE))
        clear hE
        have HT00 := H304
        refine (elect_any2 HEW.out _ _ _ H304.out.vo HBO.out).mono ?_
        rintro e u931 ⟨r, rfl, hr, hnw, b931⟩
        clear xt0 xt1 xt2 xt3 xt4 xt5 zt
        have H308 := Lib.hid (H304.out.step b931)
        clear H304
        have H309 := Lib.hid (H305.out.step b931)
        clear H305
        have H310 := Lib.hid (HBO.out.step b931)
        clear HBO
        have H311 := Lib.hid (keep2 b931 H306.out)
        clear H306
        clear b931
        obtain ⟨ra, rc, rfl⟩ := vo_slice hr
        have HFV := Lib.hid (far_fresh (la := sa) (kw := kl) (kl := kr) (new_far hnw) (row_ltA HT00.out.row) HT00.out.ls.2.2 (by obtain ⟨_, _, _, _, hh, -⟩ := HT00.out.rb; exact hh.2.2))
        clear hnw HT00
        have H312 := Lib.hid (hr)
        clear hr
        have H313 := Lib.hid (H308.out.step (al u931 (.cells #[.int .i64 eh, .int .i64 ef, .int .i64 eu] 37)))
        clear H308
        have H314 := Lib.hid (H309.out.step (al u931 (.cells #[.int .i64 eh, .int .i64 ef, .int .i64 eu] 37)))
        clear H309
        have H315 := Lib.hid (H310.out.step (al u931 (.cells #[.int .i64 eh, .int .i64 ef, .int .i64 eu] 37)))
        clear H310
        have H316 := Lib.hid (H312.out.step (al u931 (.cells #[.int .i64 eh, .int .i64 ef, .int .i64 eu] 37)))
        clear H312
        have H317 := Lib.hid (keep2 (al u931 (.cells #[.int .i64 eh, .int .i64 ef, .int .i64 eu] 37)) H311.out)
        clear H311
        have H318 := Lib.hid (Cs.new u931 (u931.heap.size) #[.int .i64 eh, .int .i64 ef, .int .i64 eu] 37 (by simp))
        rcases HSTP.out with ⟨q1, q2, q3⟩ | ⟨q1, q2, q3⟩ | ⟨q1, q2, q3⟩
        · skip
          subst q1 q2
          have HJ := Lib.hid q3
          clear q3
          rw [HN2.out] at HJ
          go_wp2
          go_meet
          exact ⟨va, vc, L, G, S, t, W, f, li, dn, sa, sc, Q, rfl, (by first | rfl | simp), rfl, Lib.hid ⟨HRI.out.ti.vote HJ.out HT9.out, HRI.out.wf, HRI.out.li, HRI.out.dn, Nat.le_succ_of_le HRI.out.q⟩, H313, H317⟩
        · skip
          subst q1
          have HJ := Lib.hid q3
          clear q3
          rw [HN2.out] at HJ
          rw [q2]
          have HVL := Lib.hid q2
          clear q2
          have HTV := Lib.hid (H313.out.putV H316.out HFV.out)
          go_wp2
          go_meet
          exact ⟨ra, rc, V, G, S, t, W, f, li, dn, sa, sc, Q, (by rw [HVL.out]), (by first | rfl | simp), rfl, Lib.hid ⟨HRI.out.ti.vote HJ.out HT9.out, HRI.out.wf, HRI.out.li, HRI.out.dn, Nat.le_succ_of_le HRI.out.q⟩, HTV, H317⟩
        · skip
          subst q1
          have HJ := Lib.hid q3
          clear q3
          rw [HN2.out] at HJ
          rw [q2]
          have HVL := Lib.hid q2
          clear q2
          have HTV := Lib.hid (H313.out.putV H316.out HFV.out)
          have HHB := Lib.hid (ew_hub HEW.out rfl)
          have xx0 : (u931.alloc (.cells #[.int .i64 eh, .int .i64 ef, .int .i64 eu] 37)).cell? ⟨(u931.heap.size), 0, none⟩ = some (.int .i64 eh) := H318.out.c 0 rfl
          have xx1 : (u931.alloc (.cells #[.int .i64 eh, .int .i64 ef, .int .i64 eu] 37)).cell? ⟨(u931.heap.size), 1, none⟩ = some (.int .i64 ef) := H318.out.c 1 rfl
          have xx2 : (u931.alloc (.cells #[.int .i64 eh, .int .i64 ef, .int .i64 eu] 37)).cell? ⟨(u931.heap.size), 2, none⟩ = some (.int .i64 eu) := H318.out.c 2 rfl
          have zx : (u931.heap.size) < (u931.alloc (.cells #[.int .i64 eh, .int .i64 ef, .int .i64 eu] 37)).heap.size := H318.out.2.2
          obtain ⟨l0, l1, l2, m0, m1, m2⟩ := lar_at HTV.out.ls HKH.out
          have lz := HTV.out.ls.2.2
          have t3 : (kh : Int) < 3 := by have := HKH.out; omega
          go_wp2_with fail
          have hcs := lar_set HTV.out.ls HKH.out eh ef eu
          have hcg := (((Chg.of (k := kl) (Below.refl _ (u931.alloc (.cells #[.int .i64 eh, .int .i64 ef, .int .i64 eu] 37)))).set (kh * 3) (.int .i64 eh)).set (kh * 3 + 1) (.int .i64 ef)).set (kh * 3 + 2) (.int .i64 eu)
          have ht := HTV.out.setL hcg hcs
          have hb := H317.out.trans (hcg.below HLO.out.1 H317.out.size)
          go_meet
          exact ⟨ra, rc, V, G ++ [⟨eh, ef, eu, n2⟩], (fun j => if j = kh then ⟨eh, ef, eu⟩ else S j), t, W, f, li, dn, sa, sc, Q, (by rw [HVL.out]), (by first | rfl | simp), rfl, Lib.hid ⟨HRI.out.ti.got HHB.out HJ.out HT9.out, HRI.out.wf, HRI.out.li, HRI.out.dn, Nat.le_succ_of_le HRI.out.q⟩, Lib.hid ht, Lib.hid hb⟩
      · skip
        obtain ⟨l0, l1, l2, -, -, -⟩ := lar_at H301.out.ls HKH.out
        have lz := H301.out.ls.2.2
        have t3 : (kh : Int) < 3 := by have := HKH.out; omega
        have xt0 : (wr.alloc (.cells #[.int .u8 xd, .int .u8 xh, .int .u8 xa, .int .u8 xt, .int .u8 xl, .int .u8 xw] 35)).cell? ⟨(wr.heap.size), 0, none⟩ = some (.int .u8 xd) := H303.out.c 0 rfl
        have xt1 : (wr.alloc (.cells #[.int .u8 xd, .int .u8 xh, .int .u8 xa, .int .u8 xt, .int .u8 xl, .int .u8 xw] 35)).cell? ⟨(wr.heap.size), 1, none⟩ = some (.int .u8 xh) := H303.out.c 1 rfl
        have xt2 : (wr.alloc (.cells #[.int .u8 xd, .int .u8 xh, .int .u8 xa, .int .u8 xt, .int .u8 xl, .int .u8 xw] 35)).cell? ⟨(wr.heap.size), 2, none⟩ = some (.int .u8 xa) := H303.out.c 2 rfl
        have xt3 : (wr.alloc (.cells #[.int .u8 xd, .int .u8 xh, .int .u8 xa, .int .u8 xt, .int .u8 xl, .int .u8 xw] 35)).cell? ⟨(wr.heap.size), 3, none⟩ = some (.int .u8 xt) := H303.out.c 3 rfl
        have xt4 : (wr.alloc (.cells #[.int .u8 xd, .int .u8 xh, .int .u8 xa, .int .u8 xt, .int .u8 xl, .int .u8 xw] 35)).cell? ⟨(wr.heap.size), 4, none⟩ = some (.int .u8 xl) := H303.out.c 4 rfl
        have xt5 : (wr.alloc (.cells #[.int .u8 xd, .int .u8 xh, .int .u8 xa, .int .u8 xt, .int .u8 xl, .int .u8 xw] 35)).cell? ⟨(wr.heap.size), 5, none⟩ = some (.int .u8 xw) := H303.out.c 5 rfl
        have zt : (wr.heap.size) < (wr.alloc (.cells #[.int .u8 xd, .int .u8 xh, .int .u8 xa, .int .u8 xt, .int .u8 xl, .int .u8 xw] 35)).heap.size := H303.out.2.2
        obtain ⟨sf, hsf⟩ : ∃ z9, (S kh).f = z9 := ⟨_, rfl⟩
        rw [hsf] at l1
        clear hsf l0 l2
        by_cases hp : 0 < sf
        rotate_left
        · skip
          have g1 : decide (0 < sf) = false := decide_eq_false hp
          go_wp2
          go_meet
          exact ⟨va, vc, L, G, S, t, W, f, li, dn, sa, sc, Q, rfl, (by first | rfl | simp), rfl, (Lib.hid ⟨by rw [← HN2.out]; exact HRI.out.ti.wait HT0.out.1 HT0.out.2, HRI.out.wf, HRI.out.li, HRI.out.dn, Nat.le_succ_of_le HRI.out.q⟩), H301, H302⟩
        have g1 : decide (0 < sf) = true := decide_eq_true hp
        have HA7 := Lib.hid (H301.out.step (al (wr.alloc (.cells #[.int .u8 xd, .int .u8 xh, .int .u8 xa, .int .u8 xt, .int .u8 xl, .int .u8 xw] 35)) (.cells #[.int .i64 (kh : Int), .int .i64 (Q.length : Int), .int .i64 sf, .int .i64 0, .int .i64 (kh : Int)] 44)))
        have HB7 := Lib.hid (keep2 (al (wr.alloc (.cells #[.int .u8 xd, .int .u8 xh, .int .u8 xa, .int .u8 xt, .int .u8 xl, .int .u8 xw] 35)) (.cells #[.int .i64 (kh : Int), .int .i64 (Q.length : Int), .int .i64 sf, .int .i64 0, .int .i64 (kh : Int)] 44)) H302.out)
        obtain ⟨i0, hi0, hz0, hz1, hz2⟩ := info_parts sn_info
        have hQ9 : Q.length ≤ 80 := by have h1 := HRI.out.q; have h2 := HIL.out; have h3 := H9.out; omega
        have HNE := Lib.hid (show L ≠ [] ∧ W ≠ [] ∧ li ≠ [] from ⟨fun q => by have := HRI.out.len; rw [q] at this; simp at this, fun q => by have := HRI.out.wf.1; rw [q] at this; simp at this, fun q => by have := HRI.out.li; rw [q] at this; simp at this⟩)
        go_wp2_with (at_builtin; refine wpList_append_own_at _ rfl _ _ 33 rfl base 44 i0 _ 5 40 Try.underlying33 hi0 hz0 hz1 hz2 rfl (by decide) _ _ _ rfl HA7.out.row ⟨wr.heap.size + 1, 0, none⟩ 1 1 [.int .i64 (kh : Int), .int .i64 (Q.length : Int), .int .i64 sf, .int .i64 0, .int .i64 (kh : Int)] rfl rfl (cell_five_new _ _ _ _ _ _ _ _ (by simp)) (by simp [Value.oneCell']) (by unfold maxLen; omega) (by omega) HA7.out.bs ?_; intro v8 w8 ho8 hg8 _ hd8; obtain ⟨la8, lc8, rfl⟩ := row_slice ho8; have HT8 := Lib.hid (HA7.out.app (x := ⟨(kh : Int), (Q.length : Int), sf, 0, (kh : Int)⟩) HNE.out.1 HNE.out.2.1 HNE.out.2.2 hg8 ho8 hd8); have HB8 := Lib.hid (row_belowA HB7.out HLB.out hg8 HA7.out.row HB7.out.size); clear ho8 hg8 hd8)
        go_meet
        exact ⟨va, vc, L, G, S, t, W, f, li, dn, la8, lc8, Q ++ [⟨(kh : Int), (Q.length : Int), sf, 0, (kh : Int)⟩], rfl, (by first | rfl | simp), rfl, (Lib.hid ⟨by rw [← HN2.out]; exact HRI.out.ti.wait HT0.out.1 HT0.out.2, HRI.out.wf, HRI.out.li, HRI.out.dn, by rw [List.length_append]; have := HRI.out.q; simp; omega⟩), HT8, HB8⟩
      · skip
        by_cases hq0 : Q = []
        · skip
          have xt0 : (wr.alloc (.cells #[.int .u8 xd, .int .u8 xh, .int .u8 xa, .int .u8 xt, .int .u8 xl, .int .u8 xw] 35)).cell? ⟨(wr.heap.size), 0, none⟩ = some (.int .u8 xd) := H303.out.c 0 rfl
          have xt1 : (wr.alloc (.cells #[.int .u8 xd, .int .u8 xh, .int .u8 xa, .int .u8 xt, .int .u8 xl, .int .u8 xw] 35)).cell? ⟨(wr.heap.size), 1, none⟩ = some (.int .u8 xh) := H303.out.c 1 rfl
          have xt2 : (wr.alloc (.cells #[.int .u8 xd, .int .u8 xh, .int .u8 xa, .int .u8 xt, .int .u8 xl, .int .u8 xw] 35)).cell? ⟨(wr.heap.size), 2, none⟩ = some (.int .u8 xa) := H303.out.c 2 rfl
          have xt3 : (wr.alloc (.cells #[.int .u8 xd, .int .u8 xh, .int .u8 xa, .int .u8 xt, .int .u8 xl, .int .u8 xw] 35)).cell? ⟨(wr.heap.size), 3, none⟩ = some (.int .u8 xt) := H303.out.c 3 rfl
          have xt4 : (wr.alloc (.cells #[.int .u8 xd, .int .u8 xh, .int .u8 xa, .int .u8 xt, .int .u8 xl, .int .u8 xw] 35)).cell? ⟨(wr.heap.size), 4, none⟩ = some (.int .u8 xl) := H303.out.c 4 rfl
          have xt5 : (wr.alloc (.cells #[.int .u8 xd, .int .u8 xh, .int .u8 xa, .int .u8 xt, .int .u8 xl, .int .u8 xw] 35)).cell? ⟨(wr.heap.size), 5, none⟩ = some (.int .u8 xw) := H303.out.c 5 rfl
          have zt : (wr.heap.size) < (wr.alloc (.cells #[.int .u8 xd, .int .u8 xh, .int .u8 xa, .int .u8 xt, .int .u8 xl, .int .u8 xw] 35)).heap.size := H303.out.2.2
          subst hq0
          have HIL2 := HIL
          go_wp2
          go_roundw
          case rel => exact ⟨i + 1, HIL.out, (by first | rfl | go_num), va, vc, L, G, n2, S, t, W, f, li, dn, sa, sc, [], rfl, rfl, rfl, rfl, (by rw [← HN2.out]; exact Lib.hid ⟨HRI.out.ti.wait HT0.out.1 HT0.out.2, HRI.out.wf, HRI.out.li, HRI.out.dn, by simp⟩), H301, H302⟩
          case measure => exact meas_any HIL.out H9.out
        have hql : 0 < Q.length := List.length_pos_iff.2 hq0
        obtain ⟨k, hk, hkl⟩ := mod_nat HW0.out hql
        have HKL := Lib.hid hkl
        have hkt : xw.tmod (Q.length : Int) = k := by rw [Int.tmod_eq_emod_of_nonneg HW0.out]; exact hk
        obtain ⟨bq, rfl, hcq⟩ := sn_at H301.out.row hkl
        obtain ⟨o, ho⟩ : ∃ z9, Q.getD k zS = z9 := ⟨_, rfl⟩
        rw [ho] at hcq
        obtain ⟨oh, oa, ob, oc, od⟩ := o
        have a1 := hcq 1 _ rfl
        have a2 := hcq 2 _ rfl
        have a3 := hcq 3 _ rfl
        have a4 := hcq 4 _ rfl
        have az := World.block_lt_of_cell? _ _ a1
        clear hcq ho
        have g0 : ((Q.length : Int) == 0) = false := by simp; exact hq0
        have g2 : ¬ (Q.length : Int) = 0 := by omega
        have g3 : (0 : Int) < (Q.length : Int) := by omega
        have g6 : (k : Int) < (Q.length : Int) := by omega
        have hw0 := HW0.out
        clear hk hql
        have H304 := Lib.hid (H301.out.step (al (wr.alloc (.cells #[.int .u8 xd, .int .u8 xh, .int .u8 xa, .int .u8 xt, .int .u8 xl, .int .u8 xw] 35)) (.cells #[.int .i64 oa, .int .i64 ob, .int .i64 oc, .int .i64 od] 42)))
        clear H301
        have H305 := Lib.hid (H303.out.step (al (wr.alloc (.cells #[.int .u8 xd, .int .u8 xh, .int .u8 xa, .int .u8 xt, .int .u8 xl, .int .u8 xw] 35)) (.cells #[.int .i64 oa, .int .i64 ob, .int .i64 oc, .int .i64 od] 42)))
        clear H303
        have H306 := Lib.hid (keep2 (al (wr.alloc (.cells #[.int .u8 xd, .int .u8 xh, .int .u8 xa, .int .u8 xt, .int .u8 xl, .int .u8 xw] 35)) (.cells #[.int .i64 oa, .int .i64 ob, .int .i64 oc, .int .i64 od] 42)) H302.out)
        clear H302
        have H307 := Lib.hid (Cs.new (wr.alloc (.cells #[.int .u8 xd, .int .u8 xh, .int .u8 xa, .int .u8 xt, .int .u8 xl, .int .u8 xw] 35)) (wr.heap.size + 1) #[.int .i64 oa, .int .i64 ob, .int .i64 oc, .int .i64 od] 42 (by simp))
        obtain ⟨ua, uc, na, nc, hr1, hr2, hr3, hr4, hr5⟩ := H304.out.rb
        have H308 := Lib.hid (hr1)
        have H309 := Lib.hid (hr2)
        have H310 := Lib.hid (hr3)
        clear hr1 hr2 hr3 hr4 hr5
        have xt0 : ((wr.alloc (.cells #[.int .u8 xd, .int .u8 xh, .int .u8 xa, .int .u8 xt, .int .u8 xl, .int .u8 xw] 35)).alloc (.cells #[.int .i64 oa, .int .i64 ob, .int .i64 oc, .int .i64 od] 42)).cell? ⟨(wr.heap.size), 0, none⟩ = some (.int .u8 xd) := H305.out.c 0 rfl
        have xt1 : ((wr.alloc (.cells #[.int .u8 xd, .int .u8 xh, .int .u8 xa, .int .u8 xt, .int .u8 xl, .int .u8 xw] 35)).alloc (.cells #[.int .i64 oa, .int .i64 ob, .int .i64 oc, .int .i64 od] 42)).cell? ⟨(wr.heap.size), 1, none⟩ = some (.int .u8 xh) := H305.out.c 1 rfl
        have xt2 : ((wr.alloc (.cells #[.int .u8 xd, .int .u8 xh, .int .u8 xa, .int .u8 xt, .int .u8 xl, .int .u8 xw] 35)).alloc (.cells #[.int .i64 oa, .int .i64 ob, .int .i64 oc, .int .i64 od] 42)).cell? ⟨(wr.heap.size), 2, none⟩ = some (.int .u8 xa) := H305.out.c 2 rfl
        have xt3 : ((wr.alloc (.cells #[.int .u8 xd, .int .u8 xh, .int .u8 xa, .int .u8 xt, .int .u8 xl, .int .u8 xw] 35)).alloc (.cells #[.int .i64 oa, .int .i64 ob, .int .i64 oc, .int .i64 od] 42)).cell? ⟨(wr.heap.size), 3, none⟩ = some (.int .u8 xt) := H305.out.c 3 rfl
        have xt4 : ((wr.alloc (.cells #[.int .u8 xd, .int .u8 xh, .int .u8 xa, .int .u8 xt, .int .u8 xl, .int .u8 xw] 35)).alloc (.cells #[.int .i64 oa, .int .i64 ob, .int .i64 oc, .int .i64 od] 42)).cell? ⟨(wr.heap.size), 4, none⟩ = some (.int .u8 xl) := H305.out.c 4 rfl
        have xt5 : ((wr.alloc (.cells #[.int .u8 xd, .int .u8 xh, .int .u8 xa, .int .u8 xt, .int .u8 xl, .int .u8 xw] 35)).alloc (.cells #[.int .i64 oa, .int .i64 ob, .int .i64 oc, .int .i64 od] 42)).cell? ⟨(wr.heap.size), 5, none⟩ = some (.int .u8 xw) := H305.out.c 5 rfl
        have zt : (wr.heap.size) < ((wr.alloc (.cells #[.int .u8 xd, .int .u8 xh, .int .u8 xa, .int .u8 xt, .int .u8 xl, .int .u8 xw] 35)).alloc (.cells #[.int .i64 oa, .int .i64 ob, .int .i64 oc, .int .i64 od] 42)).heap.size := H305.out.2.2
        have xo0 : ((wr.alloc (.cells #[.int .u8 xd, .int .u8 xh, .int .u8 xa, .int .u8 xt, .int .u8 xl, .int .u8 xw] 35)).alloc (.cells #[.int .i64 oa, .int .i64 ob, .int .i64 oc, .int .i64 od] 42)).cell? ⟨(wr.heap.size + 1), 0, none⟩ = some (.int .i64 oa) := H307.out.c 0 rfl
        have xo1 : ((wr.alloc (.cells #[.int .u8 xd, .int .u8 xh, .int .u8 xa, .int .u8 xt, .int .u8 xl, .int .u8 xw] 35)).alloc (.cells #[.int .i64 oa, .int .i64 ob, .int .i64 oc, .int .i64 od] 42)).cell? ⟨(wr.heap.size + 1), 1, none⟩ = some (.int .i64 ob) := H307.out.c 1 rfl
        have xo2 : ((wr.alloc (.cells #[.int .u8 xd, .int .u8 xh, .int .u8 xa, .int .u8 xt, .int .u8 xl, .int .u8 xw] 35)).alloc (.cells #[.int .i64 oa, .int .i64 ob, .int .i64 oc, .int .i64 od] 42)).cell? ⟨(wr.heap.size + 1), 2, none⟩ = some (.int .i64 oc) := H307.out.c 2 rfl
        have xo3 : ((wr.alloc (.cells #[.int .u8 xd, .int .u8 xh, .int .u8 xa, .int .u8 xt, .int .u8 xl, .int .u8 xw] 35)).alloc (.cells #[.int .i64 oa, .int .i64 ob, .int .i64 oc, .int .i64 od] 42)).cell? ⟨(wr.heap.size + 1), 3, none⟩ = some (.int .i64 od) := H307.out.c 3 rfl
        have zo : (wr.heap.size + 1) < ((wr.alloc (.cells #[.int .u8 xd, .int .u8 xh, .int .u8 xa, .int .u8 xt, .int .u8 xl, .int .u8 xw] 35)).alloc (.cells #[.int .i64 oa, .int .i64 ob, .int .i64 oc, .int .i64 od] 42)).heap.size := H307.out.2.2
        have xR0 : ((wr.alloc (.cells #[.int .u8 xd, .int .u8 xh, .int .u8 xa, .int .u8 xt, .int .u8 xl, .int .u8 xw] 35)).alloc (.cells #[.int .i64 oa, .int .i64 ob, .int .i64 oc, .int .i64 od] 42)).cell? ⟨kr, 0, none⟩ = some (.int .i64 t) := H308.out.c 0 rfl
        have xR1 : ((wr.alloc (.cells #[.int .u8 xd, .int .u8 xh, .int .u8 xa, .int .u8 xt, .int .u8 xl, .int .u8 xw] 35)).alloc (.cells #[.int .i64 oa, .int .i64 ob, .int .i64 oc, .int .i64 od] 42)).cell? ⟨kr, 1, none⟩ = some (.slice ua 16 uc) := H308.out.c 1 rfl
        have xR2 : ((wr.alloc (.cells #[.int .u8 xd, .int .u8 xh, .int .u8 xa, .int .u8 xt, .int .u8 xl, .int .u8 xw] 35)).alloc (.cells #[.int .i64 oa, .int .i64 ob, .int .i64 oc, .int .i64 od] 42)).cell? ⟨kr, 2, none⟩ = some (.int .i64 f) := H308.out.c 2 rfl
        have xR3 : ((wr.alloc (.cells #[.int .u8 xd, .int .u8 xh, .int .u8 xa, .int .u8 xt, .int .u8 xl, .int .u8 xw] 35)).alloc (.cells #[.int .i64 oa, .int .i64 ob, .int .i64 oc, .int .i64 od] 42)).cell? ⟨kr, 3, none⟩ = some (.slice na 1 nc) := H308.out.c 3 rfl
        have xR4 : ((wr.alloc (.cells #[.int .u8 xd, .int .u8 xh, .int .u8 xa, .int .u8 xt, .int .u8 xl, .int .u8 xw] 35)).alloc (.cells #[.int .i64 oa, .int .i64 ob, .int .i64 oc, .int .i64 od] 42)).cell? ⟨kr, 4, none⟩ = some (.int .i64 dn) := H308.out.c 4 rfl
        have zR : kr < ((wr.alloc (.cells #[.int .u8 xd, .int .u8 xh, .int .u8 xa, .int .u8 xt, .int .u8 xl, .int .u8 xw] 35)).alloc (.cells #[.int .i64 oa, .int .i64 ob, .int .i64 oc, .int .i64 od] 42)).heap.size := H308.out.2.2
        go_wp2_with fail
        clear a1 a2 a3 a4 az g0 g2 g3 g6 hkt hkl hw0 hq0
        obtain ⟨T, A, F, V, Dn, ok, er, hRW⟩ := rw_total t W f li dn oa ob oc od
        have HRW := Lib.hid hRW
        obtain ⟨hwf, hvl, hway⟩ := rw_ways hRW HRI.out.wf
        have HWF := Lib.hid hwf
        have HAL := Lib.hid hwf.1
        have HVL := Lib.hid (hvl.trans HRI.out.li)
        have HDN := Lib.hid (rw_dn hRW HRI.out.dn)
        have HWAY := Lib.hid hway
        clear hRW hwf hvl hway
        have HT00 := H304
        refine (receive_is HRW.out _ _ _ H309.out H310.out (by rw [HRI.out.wf.1]; decide) (by rw [HRI.out.li]; decide)).mono ?_
        rintro e u931 ⟨cc, vc2, aa, va2, rfl, -, hbs, hin, b931, hf1, hf2⟩
        clear xt0 xt1 xt2 xt3 xt4 xt5 zt xo0 xo1 xo2 xo3 zo xR0 xR1 xR2 xR3 xR4 zR
        have H311 := Lib.hid (H304.out.step b931)
        clear H304
        have H312 := Lib.hid (H305.out.step b931)
        clear H305
        have H313 := Lib.hid (H307.out.step b931)
        clear H307
        have H314 := Lib.hid (H308.out.step b931)
        clear H308
        have H315 := Lib.hid (H309.out.step b931)
        clear H309
        have H316 := Lib.hid (H310.out.step b931)
        clear H310
        have H317 := Lib.hid (keep2 b931 H306.out)
        clear H306
        clear b931
        rw [HAL.out] at hbs
        rw [HRI.out.li] at hin
        rw [HAL.out, HRI.out.li]
        have HF1 := Lib.hid (far_fresh (la := some ⟨bq, 0, none⟩) (kw := kl) (kl := kr) hf1 (row_ltA HT00.out.row) HT00.out.ls.2.2 (by obtain ⟨_, _, _, _, hh, -⟩ := HT00.out.rb; exact hh.2.2))
        have HF2 := Lib.hid (far_fresh (la := some ⟨bq, 0, none⟩) (kw := kl) (kl := kr) hf2 (row_ltA HT00.out.row) HT00.out.ls.2.2 (by obtain ⟨_, _, _, _, hh, -⟩ := HT00.out.rb; exact hh.2.2))
        clear hf1 hf2 HT00
        have H318 := Lib.hid (hbs)
        have H319 := Lib.hid (hin)
        clear hbs hin
        have H320 := Lib.hid (H311.out.step (al u931 (.cells #[.int .i64 T, .slice aa 16 cc, .int .i64 F, .slice va2 1 vc2, .int .i64 Dn] 31)))
        clear H311
        have H321 := Lib.hid (H312.out.step (al u931 (.cells #[.int .i64 T, .slice aa 16 cc, .int .i64 F, .slice va2 1 vc2, .int .i64 Dn] 31)))
        clear H312
        have H322 := Lib.hid (H313.out.step (al u931 (.cells #[.int .i64 T, .slice aa 16 cc, .int .i64 F, .slice va2 1 vc2, .int .i64 Dn] 31)))
        clear H313
        have H323 := Lib.hid (H314.out.step (al u931 (.cells #[.int .i64 T, .slice aa 16 cc, .int .i64 F, .slice va2 1 vc2, .int .i64 Dn] 31)))
        clear H314
        have H324 := Lib.hid (H315.out.step (al u931 (.cells #[.int .i64 T, .slice aa 16 cc, .int .i64 F, .slice va2 1 vc2, .int .i64 Dn] 31)))
        clear H315
        have H325 := Lib.hid (H316.out.step (al u931 (.cells #[.int .i64 T, .slice aa 16 cc, .int .i64 F, .slice va2 1 vc2, .int .i64 Dn] 31)))
        clear H316
        have H326 := Lib.hid (H318.out.step (al u931 (.cells #[.int .i64 T, .slice aa 16 cc, .int .i64 F, .slice va2 1 vc2, .int .i64 Dn] 31)))
        clear H318
        have H327 := Lib.hid (H319.out.step (al u931 (.cells #[.int .i64 T, .slice aa 16 cc, .int .i64 F, .slice va2 1 vc2, .int .i64 Dn] 31)))
        clear H319
        have H328 := Lib.hid (keep2 (al u931 (.cells #[.int .i64 T, .slice aa 16 cc, .int .i64 F, .slice va2 1 vc2, .int .i64 Dn] 31)) H317.out)
        clear H317
        have H329 := Lib.hid (Cs.new u931 (u931.heap.size) #[.int .i64 T, .slice aa 16 cc, .int .i64 F, .slice va2 1 vc2, .int .i64 Dn] 31 (by simp))
        rcases HWAY.out with ⟨q1, q2, q3, q4⟩ | ⟨q1, q2, q3⟩ | ⟨q1, q2, q3⟩
        · skip
          subst q1
          have g4 : decide (ob < f) = false := decide_eq_false (by omega)
          have g5 : ¬ ob < f := by omega
          have g7 : decide (dn < Dn) = true := decide_eq_true (by omega)
          have g8 : dn < Dn := by omega
          have HQ3 := Lib.hid q3
          clear q2 q3 q4
          have xx0 : (u931.alloc (.cells #[.int .i64 T, .slice aa 16 cc, .int .i64 F, .slice va2 1 vc2, .int .i64 Dn] 31)).cell? ⟨(u931.heap.size), 0, none⟩ = some (.int .i64 T) := H329.out.c 0 rfl
          have xx1 : (u931.alloc (.cells #[.int .i64 T, .slice aa 16 cc, .int .i64 F, .slice va2 1 vc2, .int .i64 Dn] 31)).cell? ⟨(u931.heap.size), 1, none⟩ = some (.slice aa 16 cc) := H329.out.c 1 rfl
          have xx2 : (u931.alloc (.cells #[.int .i64 T, .slice aa 16 cc, .int .i64 F, .slice va2 1 vc2, .int .i64 Dn] 31)).cell? ⟨(u931.heap.size), 2, none⟩ = some (.int .i64 F) := H329.out.c 2 rfl
          have xx3 : (u931.alloc (.cells #[.int .i64 T, .slice aa 16 cc, .int .i64 F, .slice va2 1 vc2, .int .i64 Dn] 31)).cell? ⟨(u931.heap.size), 3, none⟩ = some (.slice va2 1 vc2) := H329.out.c 3 rfl
          have xx4 : (u931.alloc (.cells #[.int .i64 T, .slice aa 16 cc, .int .i64 F, .slice va2 1 vc2, .int .i64 Dn] 31)).cell? ⟨(u931.heap.size), 4, none⟩ = some (.int .i64 Dn) := H329.out.c 4 rfl
          have zx : (u931.heap.size) < (u931.alloc (.cells #[.int .i64 T, .slice aa 16 cc, .int .i64 F, .slice va2 1 vc2, .int .i64 Dn] 31)).heap.size := H329.out.2.2
          have xR0 : (u931.alloc (.cells #[.int .i64 T, .slice aa 16 cc, .int .i64 F, .slice va2 1 vc2, .int .i64 Dn] 31)).cell? ⟨kr, 0, none⟩ = some (.int .i64 t) := H323.out.c 0 rfl
          have xR1 : (u931.alloc (.cells #[.int .i64 T, .slice aa 16 cc, .int .i64 F, .slice va2 1 vc2, .int .i64 Dn] 31)).cell? ⟨kr, 1, none⟩ = some (.slice ua 16 uc) := H323.out.c 1 rfl
          have xR2 : (u931.alloc (.cells #[.int .i64 T, .slice aa 16 cc, .int .i64 F, .slice va2 1 vc2, .int .i64 Dn] 31)).cell? ⟨kr, 2, none⟩ = some (.int .i64 f) := H323.out.c 2 rfl
          have xR3 : (u931.alloc (.cells #[.int .i64 T, .slice aa 16 cc, .int .i64 F, .slice va2 1 vc2, .int .i64 Dn] 31)).cell? ⟨kr, 3, none⟩ = some (.slice na 1 nc) := H323.out.c 3 rfl
          have xR4 : (u931.alloc (.cells #[.int .i64 T, .slice aa 16 cc, .int .i64 F, .slice va2 1 vc2, .int .i64 Dn] 31)).cell? ⟨kr, 4, none⟩ = some (.int .i64 dn) := H323.out.c 4 rfl
          have zR : kr < (u931.alloc (.cells #[.int .i64 T, .slice aa 16 cc, .int .i64 F, .slice va2 1 vc2, .int .i64 Dn] 31)).heap.size := H323.out.2.2
          have xo0 : (u931.alloc (.cells #[.int .i64 T, .slice aa 16 cc, .int .i64 F, .slice va2 1 vc2, .int .i64 Dn] 31)).cell? ⟨(wr.heap.size + 1), 0, none⟩ = some (.int .i64 oa) := H322.out.c 0 rfl
          have xo1 : (u931.alloc (.cells #[.int .i64 T, .slice aa 16 cc, .int .i64 F, .slice va2 1 vc2, .int .i64 Dn] 31)).cell? ⟨(wr.heap.size + 1), 1, none⟩ = some (.int .i64 ob) := H322.out.c 1 rfl
          have xo2 : (u931.alloc (.cells #[.int .i64 T, .slice aa 16 cc, .int .i64 F, .slice va2 1 vc2, .int .i64 Dn] 31)).cell? ⟨(wr.heap.size + 1), 2, none⟩ = some (.int .i64 oc) := H322.out.c 2 rfl
          have xo3 : (u931.alloc (.cells #[.int .i64 T, .slice aa 16 cc, .int .i64 F, .slice va2 1 vc2, .int .i64 Dn] 31)).cell? ⟨(wr.heap.size + 1), 3, none⟩ = some (.int .i64 od) := H322.out.c 3 rfl
          have zo : (wr.heap.size + 1) < (u931.alloc (.cells #[.int .i64 T, .slice aa 16 cc, .int .i64 F, .slice va2 1 vc2, .int .i64 Dn] 31)).heap.size := H322.out.2.2
          have yR0 := H323.out.f 0 (by simp)
          have yR1 := H323.out.f 1 (by simp)
          have yR2 := H323.out.f 2 (by simp)
          have yR3 := H323.out.f 3 (by simp)
          have yR4 := H323.out.f 4 (by simp)
          go_wp2_with fail
          have hcs := (Cs.set (Cs.set (Cs.set (Cs.set (Cs.set H323.out 0 (by simp) (.int .i64 T) (vs' := #[.int .i64 T, .slice ua 16 uc, .int .i64 f, .slice na 1 nc, .int .i64 dn]) rfl) 1 (by simp) (.slice aa 16 cc) (vs' := #[.int .i64 T, .slice aa 16 cc, .int .i64 f, .slice na 1 nc, .int .i64 dn]) rfl) 2 (by simp) (.int .i64 F) (vs' := #[.int .i64 T, .slice aa 16 cc, .int .i64 F, .slice na 1 nc, .int .i64 dn]) rfl) 3 (by simp) (.slice va2 1 vc2) (vs' := #[.int .i64 T, .slice aa 16 cc, .int .i64 F, .slice va2 1 vc2, .int .i64 dn]) rfl) 4 (by simp) (.int .i64 Dn) (vs' := #[.int .i64 T, .slice aa 16 cc, .int .i64 F, .slice va2 1 vc2, .int .i64 Dn]) rfl)
          have hcg := ((((((Chg.of (k := kr) (Below.refl _ (u931.alloc (.cells #[.int .i64 T, .slice aa 16 cc, .int .i64 F, .slice va2 1 vc2, .int .i64 Dn] 31)))).set 0 (.int .i64 T)).set 1 (.slice aa 16 cc)).set 2 (.int .i64 F)).set 3 (.slice va2 1 vc2)).set 4 (.int .i64 Dn))
          have ht := H320.out.setR hcg hcs H326.out H327.out HF1.out HF2.out
          have hb := H328.out.trans (hcg.below HLO.out.2 H328.out.size)
          go_meet
          exact ⟨va, vc, L, G, S, T, A, F, V, Dn, (some ⟨bq, 0, none⟩), sc, Q, rfl, (by first | rfl | simp), (by rw [HQ3.out]), (Lib.hid ⟨by rw [← HN2.out]; exact HRI.out.ti.wait HT0.out.1 HT0.out.2, HWF.out, HVL.out, HDN.out, Nat.le_succ_of_le HRI.out.q⟩), Lib.hid ht, Lib.hid hb⟩
        · skip
          subst q1
          have g7 : decide (dn < Dn) = false := decide_eq_false (by omega)
          have g8 : ¬ dn < Dn := by omega
          have HQ3 := Lib.hid q3
          clear q2 q3
          have xx0 : (u931.alloc (.cells #[.int .i64 T, .slice aa 16 cc, .int .i64 F, .slice va2 1 vc2, .int .i64 Dn] 31)).cell? ⟨(u931.heap.size), 0, none⟩ = some (.int .i64 T) := H329.out.c 0 rfl
          have xx1 : (u931.alloc (.cells #[.int .i64 T, .slice aa 16 cc, .int .i64 F, .slice va2 1 vc2, .int .i64 Dn] 31)).cell? ⟨(u931.heap.size), 1, none⟩ = some (.slice aa 16 cc) := H329.out.c 1 rfl
          have xx2 : (u931.alloc (.cells #[.int .i64 T, .slice aa 16 cc, .int .i64 F, .slice va2 1 vc2, .int .i64 Dn] 31)).cell? ⟨(u931.heap.size), 2, none⟩ = some (.int .i64 F) := H329.out.c 2 rfl
          have xx3 : (u931.alloc (.cells #[.int .i64 T, .slice aa 16 cc, .int .i64 F, .slice va2 1 vc2, .int .i64 Dn] 31)).cell? ⟨(u931.heap.size), 3, none⟩ = some (.slice va2 1 vc2) := H329.out.c 3 rfl
          have xx4 : (u931.alloc (.cells #[.int .i64 T, .slice aa 16 cc, .int .i64 F, .slice va2 1 vc2, .int .i64 Dn] 31)).cell? ⟨(u931.heap.size), 4, none⟩ = some (.int .i64 Dn) := H329.out.c 4 rfl
          have zx : (u931.heap.size) < (u931.alloc (.cells #[.int .i64 T, .slice aa 16 cc, .int .i64 F, .slice va2 1 vc2, .int .i64 Dn] 31)).heap.size := H329.out.2.2
          have xR0 : (u931.alloc (.cells #[.int .i64 T, .slice aa 16 cc, .int .i64 F, .slice va2 1 vc2, .int .i64 Dn] 31)).cell? ⟨kr, 0, none⟩ = some (.int .i64 t) := H323.out.c 0 rfl
          have xR1 : (u931.alloc (.cells #[.int .i64 T, .slice aa 16 cc, .int .i64 F, .slice va2 1 vc2, .int .i64 Dn] 31)).cell? ⟨kr, 1, none⟩ = some (.slice ua 16 uc) := H323.out.c 1 rfl
          have xR2 : (u931.alloc (.cells #[.int .i64 T, .slice aa 16 cc, .int .i64 F, .slice va2 1 vc2, .int .i64 Dn] 31)).cell? ⟨kr, 2, none⟩ = some (.int .i64 f) := H323.out.c 2 rfl
          have xR3 : (u931.alloc (.cells #[.int .i64 T, .slice aa 16 cc, .int .i64 F, .slice va2 1 vc2, .int .i64 Dn] 31)).cell? ⟨kr, 3, none⟩ = some (.slice na 1 nc) := H323.out.c 3 rfl
          have xR4 : (u931.alloc (.cells #[.int .i64 T, .slice aa 16 cc, .int .i64 F, .slice va2 1 vc2, .int .i64 Dn] 31)).cell? ⟨kr, 4, none⟩ = some (.int .i64 dn) := H323.out.c 4 rfl
          have zR : kr < (u931.alloc (.cells #[.int .i64 T, .slice aa 16 cc, .int .i64 F, .slice va2 1 vc2, .int .i64 Dn] 31)).heap.size := H323.out.2.2
          have xo0 : (u931.alloc (.cells #[.int .i64 T, .slice aa 16 cc, .int .i64 F, .slice va2 1 vc2, .int .i64 Dn] 31)).cell? ⟨(wr.heap.size + 1), 0, none⟩ = some (.int .i64 oa) := H322.out.c 0 rfl
          have xo1 : (u931.alloc (.cells #[.int .i64 T, .slice aa 16 cc, .int .i64 F, .slice va2 1 vc2, .int .i64 Dn] 31)).cell? ⟨(wr.heap.size + 1), 1, none⟩ = some (.int .i64 ob) := H322.out.c 1 rfl
          have xo2 : (u931.alloc (.cells #[.int .i64 T, .slice aa 16 cc, .int .i64 F, .slice va2 1 vc2, .int .i64 Dn] 31)).cell? ⟨(wr.heap.size + 1), 2, none⟩ = some (.int .i64 oc) := H322.out.c 2 rfl
          have xo3 : (u931.alloc (.cells #[.int .i64 T, .slice aa 16 cc, .int .i64 F, .slice va2 1 vc2, .int .i64 Dn] 31)).cell? ⟨(wr.heap.size + 1), 3, none⟩ = some (.int .i64 od) := H322.out.c 3 rfl
          have zo : (wr.heap.size + 1) < (u931.alloc (.cells #[.int .i64 T, .slice aa 16 cc, .int .i64 F, .slice va2 1 vc2, .int .i64 Dn] 31)).heap.size := H322.out.2.2
          have yR0 := H323.out.f 0 (by simp)
          have yR1 := H323.out.f 1 (by simp)
          have yR2 := H323.out.f 2 (by simp)
          have yR3 := H323.out.f 3 (by simp)
          have yR4 := H323.out.f 4 (by simp)
          go_wp2_with fail
          have hcs := (Cs.set (Cs.set (Cs.set (Cs.set (Cs.set H323.out 0 (by simp) (.int .i64 T) (vs' := #[.int .i64 T, .slice ua 16 uc, .int .i64 f, .slice na 1 nc, .int .i64 dn]) rfl) 1 (by simp) (.slice aa 16 cc) (vs' := #[.int .i64 T, .slice aa 16 cc, .int .i64 f, .slice na 1 nc, .int .i64 dn]) rfl) 2 (by simp) (.int .i64 F) (vs' := #[.int .i64 T, .slice aa 16 cc, .int .i64 F, .slice na 1 nc, .int .i64 dn]) rfl) 3 (by simp) (.slice va2 1 vc2) (vs' := #[.int .i64 T, .slice aa 16 cc, .int .i64 F, .slice va2 1 vc2, .int .i64 dn]) rfl) 4 (by simp) (.int .i64 Dn) (vs' := #[.int .i64 T, .slice aa 16 cc, .int .i64 F, .slice va2 1 vc2, .int .i64 Dn]) rfl)
          have hcg := ((((((Chg.of (k := kr) (Below.refl _ (u931.alloc (.cells #[.int .i64 T, .slice aa 16 cc, .int .i64 F, .slice va2 1 vc2, .int .i64 Dn] 31)))).set 0 (.int .i64 T)).set 1 (.slice aa 16 cc)).set 2 (.int .i64 F)).set 3 (.slice va2 1 vc2)).set 4 (.int .i64 Dn))
          have ht := H320.out.setR hcg hcs H326.out H327.out HF1.out HF2.out
          have hb := H328.out.trans (hcg.below HLO.out.2 H328.out.size)
          go_meet
          exact ⟨va, vc, L, G, S, T, A, F, V, Dn, (some ⟨bq, 0, none⟩), sc, Q, rfl, (by first | rfl | simp), (by rw [HQ3.out]), (Lib.hid ⟨by rw [← HN2.out]; exact HRI.out.ti.wait HT0.out.1 HT0.out.2, HWF.out, HVL.out, HDN.out, Nat.le_succ_of_le HRI.out.q⟩), Lib.hid ht, Lib.hid hb⟩
        · skip
          have g9 : (er == 0) = false := beq_eq_false_iff_ne.2 q1
          have g7 : decide (dn < Dn) = false := decide_eq_false (by omega)
          have g8 : ¬ dn < Dn := by omega
          have HQ3 := Lib.hid q3
          clear q2 q3
          clear q1
          have xx0 : (u931.alloc (.cells #[.int .i64 T, .slice aa 16 cc, .int .i64 F, .slice va2 1 vc2, .int .i64 Dn] 31)).cell? ⟨(u931.heap.size), 0, none⟩ = some (.int .i64 T) := H329.out.c 0 rfl
          have xx1 : (u931.alloc (.cells #[.int .i64 T, .slice aa 16 cc, .int .i64 F, .slice va2 1 vc2, .int .i64 Dn] 31)).cell? ⟨(u931.heap.size), 1, none⟩ = some (.slice aa 16 cc) := H329.out.c 1 rfl
          have xx2 : (u931.alloc (.cells #[.int .i64 T, .slice aa 16 cc, .int .i64 F, .slice va2 1 vc2, .int .i64 Dn] 31)).cell? ⟨(u931.heap.size), 2, none⟩ = some (.int .i64 F) := H329.out.c 2 rfl
          have xx3 : (u931.alloc (.cells #[.int .i64 T, .slice aa 16 cc, .int .i64 F, .slice va2 1 vc2, .int .i64 Dn] 31)).cell? ⟨(u931.heap.size), 3, none⟩ = some (.slice va2 1 vc2) := H329.out.c 3 rfl
          have xx4 : (u931.alloc (.cells #[.int .i64 T, .slice aa 16 cc, .int .i64 F, .slice va2 1 vc2, .int .i64 Dn] 31)).cell? ⟨(u931.heap.size), 4, none⟩ = some (.int .i64 Dn) := H329.out.c 4 rfl
          have zx : (u931.heap.size) < (u931.alloc (.cells #[.int .i64 T, .slice aa 16 cc, .int .i64 F, .slice va2 1 vc2, .int .i64 Dn] 31)).heap.size := H329.out.2.2
          have xR0 : (u931.alloc (.cells #[.int .i64 T, .slice aa 16 cc, .int .i64 F, .slice va2 1 vc2, .int .i64 Dn] 31)).cell? ⟨kr, 0, none⟩ = some (.int .i64 t) := H323.out.c 0 rfl
          have xR1 : (u931.alloc (.cells #[.int .i64 T, .slice aa 16 cc, .int .i64 F, .slice va2 1 vc2, .int .i64 Dn] 31)).cell? ⟨kr, 1, none⟩ = some (.slice ua 16 uc) := H323.out.c 1 rfl
          have xR2 : (u931.alloc (.cells #[.int .i64 T, .slice aa 16 cc, .int .i64 F, .slice va2 1 vc2, .int .i64 Dn] 31)).cell? ⟨kr, 2, none⟩ = some (.int .i64 f) := H323.out.c 2 rfl
          have xR3 : (u931.alloc (.cells #[.int .i64 T, .slice aa 16 cc, .int .i64 F, .slice va2 1 vc2, .int .i64 Dn] 31)).cell? ⟨kr, 3, none⟩ = some (.slice na 1 nc) := H323.out.c 3 rfl
          have xR4 : (u931.alloc (.cells #[.int .i64 T, .slice aa 16 cc, .int .i64 F, .slice va2 1 vc2, .int .i64 Dn] 31)).cell? ⟨kr, 4, none⟩ = some (.int .i64 dn) := H323.out.c 4 rfl
          have zR : kr < (u931.alloc (.cells #[.int .i64 T, .slice aa 16 cc, .int .i64 F, .slice va2 1 vc2, .int .i64 Dn] 31)).heap.size := H323.out.2.2
          have xo0 : (u931.alloc (.cells #[.int .i64 T, .slice aa 16 cc, .int .i64 F, .slice va2 1 vc2, .int .i64 Dn] 31)).cell? ⟨(wr.heap.size + 1), 0, none⟩ = some (.int .i64 oa) := H322.out.c 0 rfl
          have xo1 : (u931.alloc (.cells #[.int .i64 T, .slice aa 16 cc, .int .i64 F, .slice va2 1 vc2, .int .i64 Dn] 31)).cell? ⟨(wr.heap.size + 1), 1, none⟩ = some (.int .i64 ob) := H322.out.c 1 rfl
          have xo2 : (u931.alloc (.cells #[.int .i64 T, .slice aa 16 cc, .int .i64 F, .slice va2 1 vc2, .int .i64 Dn] 31)).cell? ⟨(wr.heap.size + 1), 2, none⟩ = some (.int .i64 oc) := H322.out.c 2 rfl
          have xo3 : (u931.alloc (.cells #[.int .i64 T, .slice aa 16 cc, .int .i64 F, .slice va2 1 vc2, .int .i64 Dn] 31)).cell? ⟨(wr.heap.size + 1), 3, none⟩ = some (.int .i64 od) := H322.out.c 3 rfl
          have zo : (wr.heap.size + 1) < (u931.alloc (.cells #[.int .i64 T, .slice aa 16 cc, .int .i64 F, .slice va2 1 vc2, .int .i64 Dn] 31)).heap.size := H322.out.2.2
          have yR0 := H323.out.f 0 (by simp)
          have yR1 := H323.out.f 1 (by simp)
          have yR2 := H323.out.f 2 (by simp)
          have yR3 := H323.out.f 3 (by simp)
          have yR4 := H323.out.f 4 (by simp)
          go_wp2_with fail
          have hcs := (Cs.set (Cs.set (Cs.set (Cs.set (Cs.set H323.out 0 (by simp) (.int .i64 T) (vs' := #[.int .i64 T, .slice ua 16 uc, .int .i64 f, .slice na 1 nc, .int .i64 dn]) rfl) 1 (by simp) (.slice aa 16 cc) (vs' := #[.int .i64 T, .slice aa 16 cc, .int .i64 f, .slice na 1 nc, .int .i64 dn]) rfl) 2 (by simp) (.int .i64 F) (vs' := #[.int .i64 T, .slice aa 16 cc, .int .i64 F, .slice na 1 nc, .int .i64 dn]) rfl) 3 (by simp) (.slice va2 1 vc2) (vs' := #[.int .i64 T, .slice aa 16 cc, .int .i64 F, .slice va2 1 vc2, .int .i64 dn]) rfl) 4 (by simp) (.int .i64 Dn) (vs' := #[.int .i64 T, .slice aa 16 cc, .int .i64 F, .slice va2 1 vc2, .int .i64 Dn]) rfl)
          have hcg := ((((((Chg.of (k := kr) (Below.refl _ (u931.alloc (.cells #[.int .i64 T, .slice aa 16 cc, .int .i64 F, .slice va2 1 vc2, .int .i64 Dn] 31)))).set 0 (.int .i64 T)).set 1 (.slice aa 16 cc)).set 2 (.int .i64 F)).set 3 (.slice va2 1 vc2)).set 4 (.int .i64 Dn))
          have ht := H320.out.setR hcg hcs H326.out H327.out HF1.out HF2.out
          have hb := H328.out.trans (hcg.below HLO.out.2 H328.out.size)
          go_meet
          exact ⟨va, vc, L, G, S, T, A, F, V, Dn, (some ⟨bq, 0, none⟩), sc, Q, rfl, (by first | rfl | simp), (by rw [HQ3.out]), (Lib.hid ⟨by rw [← HN2.out]; exact HRI.out.ti.wait HT0.out.1 HT0.out.2, HWF.out, HVL.out, HDN.out, Nat.le_succ_of_le HRI.out.q⟩), Lib.hid ht, Lib.hid hb⟩
    case rest =>
      clear HRI H301 H303 H302
      obtain ⟨va, vc, L, G, S, t, W, f, li, dn, sa, sc, Q, rfl, rfl, rfl, HRI, HT, HW⟩ := hcut
      have HFEW := Lib.hid HRI.out.ti.few
      obtain ⟨W2, hW2⟩ : ∃ z9, wc = z9 := ⟨_, rfl⟩
      subst hW2
      go_wp2_with fail
      go_loopw [21, 22] (fun hv kv wr => ∃ k : Nat, k ≤ 3 ∧ kv = .int .i64 (k : Int) ∧ hv = .int .i64 (hn S n2 k : Int) ∧ Hid (Below wc.heap.size wc wr)) (fun _ kv _ => 3 - (intOf kv).toNat)
      case atStart => exact ⟨0, by omega, rfl, rfl, Lib.hid (Below.refl _ _)⟩
      case round =>
        obtain ⟨k, hk, rfl, rfl, HWW⟩ := hrel
        have hnk := hn_le S n2 k
        by_cases hk3 : k < 3
        rotate_left
        · skip
          obtain rfl : k = 3 := by omega
          have HTE := Lib.hid (HT.out.step HWW.out)
          have HWE := Lib.hid (keep2 HWW.out HW.out)
          obtain ⟨ua, uc, na, nc, hr1, -⟩ := HTE.out.rb
          have r2 := hr1.c 2 rfl
          have rz := hr1.2.2
          have hf := HFEW.out
          obtain ⟨hh, hhh⟩ : ∃ z9, hn S n2 3 = z9 := ⟨_, rfl⟩
          rw [hhh] at hf ⊢
          clear hhh hnk HFEW
          have g1 : decide ((1 : Int) < (hh : Int)) = false := decide_eq_false (by omega)
          have g2 : ¬ (1 : Int) < (hh : Int) := by omega
          clear hr1
          go_wp2
          go_roundw
          case rel => exact ⟨i + 1, HIL.out, (by first | rfl | go_num), va, vc, L, G, n2, S, t, W, f, li, dn, sa, sc, Q, rfl, rfl, rfl, rfl, HRI, HTE, HWE⟩
          case measure => exact meas_any HIL.out H9.out
        obtain ⟨l0, l1, l2, -, -, -⟩ := lar_at (HT.out.step HWW.out).ls hk3
        have lz := (HT.out.step HWW.out).ls.2.2
        have t3 : (k : Int) < 3 := by omega
        obtain ⟨x0, hx0⟩ : ∃ z9, (S k).h = z9 := ⟨_, rfl⟩
        obtain ⟨x1, hx1⟩ : ∃ z9, (S k).f = z9 := ⟨_, rfl⟩
        obtain ⟨x2, hx2⟩ : ∃ z9, (S k).u = z9 := ⟨_, rfl⟩
        rw [hx0] at l0
        rw [hx1] at l1
        rw [hx2] at l2
        have HNX := Lib.hid (show hn S n2 (k + 1) = hn S n2 k + if hoB x1 x2 n2 = true then 1 else 0 by rw [hn, hx1, hx2])
        clear hx0 hx1 hx2
        obtain ⟨hh, hhh⟩ : ∃ z9, hn S n2 k = z9 := ⟨_, rfl⟩
        rw [hhh] at hnk HNX ⊢
        clear hhh
        obtain ⟨bh, hbh⟩ : ∃ z9, hoB x1 x2 n2 = z9 := ⟨_, rfl⟩
        rw [hbh] at HNX
        have HBH := Lib.hid hbh
        clear hbh
        go_wp2_with fail
        refine (holds_l x0 x1 x2 n2 bh HBH.out _).mono ?_
        rintro e w3 ⟨rfl, b3⟩
        have HW3 := Lib.hid (keep2 b3 HWW.out)
        clear b3 l0 l1 l2 lz
        cases bh
        · skip
          have HNY := Lib.hid (show hn S n2 (k + 1) = hh by rw [HNX.out]; simp)
          go_wp2
          go_roundw
          case rel => exact ⟨k + 1, by omega, by go_num, by rw [HNY.out], HW3⟩
          case measure => simp [intOf]; omega
        · skip
          have HNY := Lib.hid (show hn S n2 (k + 1) = hh + 1 by rw [HNX.out]; simp)
          go_wp2
          go_roundw
          case rel => exact ⟨k + 1, by omega, by go_num, by rw [HNY.out]; first | rfl | (congr 1; omega), HW3⟩
          case measure => simp [intOf]; omega
set_option maxRecDepth 100000 in
set_option maxHeartbeats 8000000 in
theorem fenced_any (vl : Value) (l : List Tn) (w : World) (h : TnsAt w vl l) (hok : ∀ x ∈ l, x.ok)  :
    Calls Try.prog 3 #[vl] w fun e w' => e = .returned (.bool true) ∧ Below w.heap.size w w' := by
  by_cases hl : 80 < l.length
  · exact fenced_no vl l w h hok hl
  · exact fenced_go vl l w h hok hl
end Go.Proofs.Ytnanndmpbecdiaa
