/- Delivery: the examples of 'head'. -/
import Derived.Test.YtkamkkjijjkfdaaDm
namespace Go.Proofs.Ytkamkkjijjkfdaa
open Go.RowKit

theorem wf_lit {t : Int} {L : List Bool} (h : L.length = 16) (h2 : -1 ≤ t ∧ t ≤ 1000000) (h3 : 0 ≤ t → L.getD 0 false = true) (h4 : ∀ j : Fin 16, t < (j.val : Int) → L.getD j.val false = false) : WF t L :=
  ⟨h, h2.1, h2.2, h3, fun j hj => if hj16 : j < 16 then h4 ⟨j, hj16⟩ hj else by simp [List.getD, List.getElem?_eq_none (show L.length ≤ j by omega)]⟩
def Ra0 : List Bool := List.replicate 16 false
def Ra1 : List Bool := [true, false, false, false, false, false, false, false, false, false, false, false, false, false, false, false]
def Ra3 : List Bool := [true, false, false, false, false, true, false, false, false, false, false, false, false, false, false, false]
def Ra6 : List Bool := [true, false, false, false, false, false, false, false, false, false, false, true, false, false, false, false]
theorem rw1 : RW (-1) Ra0 0 [0, 0] 0 0 1 1 3 0 Ra1 1 [0, 3] 1 true 0 := RW.did (t := -1) (L := Ra0) (f := 0) (l := [0, 0]) (dn := 0) (a := 0) (b := 1) (c := 1) (d := 3) (by decide) (by decide) (by decide) (wf_lit (by decide) (by decide) (by decide) (by decide)) (.inl (by decide)) (by decide)
theorem rw2 : RW 0 Ra1 1 [0, 3] 1 0 1 1 3 0 Ra1 1 [0, 3] 1 true 0 := RW.known (t := 0) (L := Ra1) (f := 1) (l := [0, 3]) (dn := 1) (a := 0) (b := 1) (c := 1) (d := 3) (by decide) (by decide) (by decide) (wf_lit (by decide) (by decide) (by decide) (by decide)) (by decide) (by decide) (by decide)
theorem rw3 : RW 0 Ra1 1 [0, 3] 1 5 2 0 1 5 Ra3 2 [1, 3] 2 true 0 := RW.did (t := 0) (L := Ra1) (f := 1) (l := [0, 3]) (dn := 1) (a := 5) (b := 2) (c := 0) (d := 1) (by decide) (by decide) (by decide) (wf_lit (by decide) (by decide) (by decide) (by decide)) (.inl (by decide)) (by decide)
theorem rw4 : RW 5 Ra3 2 [1, 3] 2 3 1 0 2 5 Ra3 2 [1, 3] 2 false 23 := RW.low (t := 5) (L := Ra3) (f := 2) (l := [1, 3]) (dn := 2) (a := 3) (b := 1) (c := 0) (d := 2) (by decide) (by decide) (by decide) (wf_lit (by decide) (by decide) (by decide) (by decide)) (.inr (by decide)) (by decide)
theorem rw5 : RW 5 Ra3 2 [1, 3] 2 0 1 1 3 5 Ra3 2 [1, 3] 2 true 0 := RW.known (t := 5) (L := Ra3) (f := 2) (l := [1, 3]) (dn := 2) (a := 0) (b := 1) (c := 1) (d := 3) (by decide) (by decide) (by decide) (wf_lit (by decide) (by decide) (by decide) (by decide)) (by decide) (by decide) (by decide)
theorem rw6 : RW 5 Ra3 2 [1, 3] 2 16 2 0 0 16 Ra6 2 [0, 3] 3 true 0 := RW.did (t := 5) (L := Ra3) (f := 2) (l := [1, 3]) (dn := 2) (a := 16) (b := 2) (c := 0) (d := 0) (by decide) (by decide) (by decide) (wf_lit (by decide) (by decide) (by decide) (by decide)) (.inl (by decide)) (by decide)
theorem rw7 : RW 16 Ra6 2 [0, 3] 3 0 1 1 3 16 Ra6 2 [0, 3] 3 false 16 := RW.old (t := 16) (L := Ra6) (f := 2) (l := [0, 3]) (dn := 3) (a := 0) (b := 1) (c := 1) (d := 3) (by decide) (by decide) (by decide) (wf_lit (by decide) (by decide) (by decide) (by decide)) (by decide)
def RcL (w : World) (T : Int) (A : List Bool) (F : Int) (V : List Int) (D : Int) (ok : Bool) (er : Int) (e : Ending) (w' : World) : Prop :=
  ∃ (cc vc : Nat) (aa va : Option Addr), e = .returned (.tuple #[.agg #[.int .i64 T, .slice aa 16 cc, .int .i64 F, .slice va 2 vc, .int .i64 D], .bool ok, .int .i64 er]) ∧ BosAt w' (.slice aa 16 cc) A ∧ IntsAt w' (.slice va 2 vc) V ∧ Below w.heap.size w w'
theorem rcv_lit {t : Int} {L : List Bool} {f : Int} {l : List Int} {dn a b c d T : Int} {A : List Bool} {F : Int} {V : List Int} {D : Int} {ok : Bool} {er : Int} (h : RW t L f l dn a b c d T A F V D ok er) (hL : L.length = 16) (hl : l.length = 2) (hA : A.length = 16) (s v : Value) (w : World) (hs : BosAt w s L) (hv : IntsAt w v l) :
    Calls Try.prog 13 #[.agg #[.int .i64 t, s, .int .i64 f, v, .int .i64 dn], .agg #[.int .i64 a, .int .i64 b, .int .i64 c, .int .i64 d]] w (RcL w T A F V D ok er) := by
  refine (receive_is h s v w hs hv (by omega) (by omega)).mono ?_
  rintro e w' ⟨cc, vc, aa, va, rfl, -, q1, q2, q3, -, -⟩
  rw [hl] at q2 ⊢
  rw [hA] at q1 ⊢
  exact ⟨cc, vc, aa, va, rfl, q1, q2, q3⟩
theorem samer16 (T F D : Int) (A : List Bool) (V : List Int) (hA : A.length = 16) (xa xv ya yv : Option Addr) (xc xd yc yd : Nat) (w : World) (h1 : BosAt w (.slice xa 16 xc) A) (h2 : IntsAt w (.slice xv 2 xd) V) (h3 : BosAt w (.slice ya 16 yc) A) (h4 : IntsAt w (.slice yv 2 yd) V) :
    Calls Try.prog 16 #[.agg #[.int .i64 T, .slice xa 16 xc, .int .i64 F, .slice xv 2 xd, .int .i64 D], .agg #[.int .i64 T, .slice ya 16 yc, .int .i64 F, .slice yv 2 yd, .int .i64 D]] w fun e w' => e = .returned (.bool true) ∧ Below w.heap.size w w' := by
  have h := samer_any T F D A V 2 xa xv ya yv xc xd yc yd w
  rw [hA] at h
  exact h h1 h2 h3 h4
theorem ints_two {w : World} {B : Nat} {a b : Int} (h : Cs w B #[.int .i64 a, .int .i64 b]) : IntsAt w (.slice (some ⟨B, 0, none⟩) 2 2) [a, b] := by
  refine ⟨_, 2, rfl, by unfold maxLen; simp, fun _ => ⟨B, 0, rfl, fun i x hi => ?_⟩⟩
  rw [Nat.zero_add]
  rcases i with _ | _ | i
  · cases hi; exact h.c 0 rfl
  · cases hi; exact h.c 1 rfl
  · cases hi
theorem ods_one {w : World} {B : Nat} {a b c d : Int} (h : Cs w B #[.int .i64 a, .int .i64 b, .int .i64 c, .int .i64 d]) : OdsAt w (.slice (some ⟨B, 0, none⟩) 1 1) [⟨a, b, c, d⟩] := by
  refine ⟨_, 1, rfl, by simp, by unfold maxLen; simp, fun _ => ⟨B, 0, rfl, fun i x hi => ?_⟩⟩
  rcases i with _ | i
  · cases hi; exact ⟨h.c 0 rfl, h.c 1 rfl, h.c 2 rfl, h.c 3 rfl⟩
  · cases hi
theorem snp_one : SnP 1 [⟨0, 1, 1, 3⟩] := ⟨by decide, fun k hk => by
  obtain rfl : k = 0 := by simpa using hk
  exact ⟨by decide, by decide, by decide⟩⟩
theorem send_lit (w : World) : Calls Try.prog 11 #[.agg #[.int .i64 0, .slice none 0 0], .int .i64 1, .int .i64 1, .int .i64 3] w fun e w' => ∃ (uc : Nat) (ua : Option Addr), e = .returned (.tuple #[.agg #[.int .i64 1, .slice ua 1 uc], .int .i64 0]) ∧ OdsAt w' (.slice ua 1 uc) [⟨0, 1, 1, 3⟩] ∧ Below w.heap.size w w' := by
  refine (send_ok 0 1 1 3 none 0 [] ⟨by decide, fun k hk => by simp at hk⟩ (by decide) (by decide) (fun h => by simp at h) w (ods_nil w) (by simp)).mono ?_
  rintro e w' ⟨uc, ua, rfl, h1, -, h2⟩
  exact ⟨uc, ua, rfl, h1, h2⟩
theorem confirm_lit (sa : Option Addr) (sc : Nat) (w : World) (h : OdsAt w (.slice sa 1 sc) [⟨0, 1, 1, 3⟩]) : Calls Try.prog 17 #[.agg #[.int .i64 1, .slice sa 1 sc], .int .i64 0] w fun e w' => ∃ (uc : Nat) (ua : Option Addr), e = .returned (.agg #[.int .i64 1, .slice ua 0 uc]) ∧ OdsAt w' (.slice ua 0 uc) [] ∧ Below w.heap.size w w' := by
  refine (confirm_any 1 0 sa sc [⟨0, 1, 1, 3⟩] true ⟨fun _ => snp_one, fun _ => rfl⟩ w h (by simp)).mono ?_
  rintro e w' ⟨uc, ua, rfl, h1, h2⟩
  exact ⟨uc, ua, rfl, h1, h2⟩
theorem sames1 (xa ya : Option Addr) (xc yc : Nat) (w : World) (hx : OdsAt w (.slice xa 1 xc) [⟨0, 1, 1, 3⟩]) (hy : OdsAt w (.slice ya 1 yc) [⟨0, 1, 1, 3⟩]) :
    Calls Try.prog 15 #[.agg #[.int .i64 1, .slice xa 1 xc], .agg #[.int .i64 1, .slice ya 1 yc]] w fun e w' => e = .returned (.bool true) ∧ Below w.heap.size w w' := sames_any 1 xa ya xc yc [⟨0, 1, 1, 3⟩] w hx hy
theorem sames0 (xa ya : Option Addr) (xc yc : Nat) (w : World) (hx : OdsAt w (.slice xa 0 xc) []) (hy : OdsAt w (.slice ya 0 yc) []) :
    Calls Try.prog 15 #[.agg #[.int .i64 1, .slice xa 0 xc], .agg #[.int .i64 1, .slice ya 0 yc]] w fun e w' => e = .returned (.bool true) ∧ Below w.heap.size w w' := sames_any 1 xa ya xc yc [] w hx hy
theorem fld1 (sl : Value) (W : World) : Sem.run Try.prog (Instr.field 27 (.agg #[.int .i64 (-1), sl]) 0) W = .ok (.int .i64 (-1)) W := by kernel_rfl
theorem ints_b (v u : Value) (l : List Int) (w : World) (h : IntsAt w v l) (h' : IntsAt w u l) : Calls Try.prog 24 #[v, u] w fun e w' => e = .returned (.bool true) ∧ Below w.heap.size w w' := by
  refine (ints_any v u l l w h h').mono ?_
  rintro e w' ⟨rfl, n, rfl⟩
  exact ⟨by simp, below_drewN' _ _ _⟩
set_option maxRecDepth 100000 in
set_option maxHeartbeats 8000000 in
theorem head_any (w : World) : Calls Try.prog 9 #[] w fun e w' => e = .returned (.bool true) ∧ Below w.heap.size w w' := by
  have H0 := Lib.hid (Below.refl w.heap.size w)
  have H1 := Lib.hid (keep2 (al w (.cells #[.int .i64 0, .int .i64 0] 3)) H0.out)
  clear H0
  have H2 := Lib.hid (Cs.new w (w.heap.size) #[.int .i64 0, .int .i64 0] 3 (by simp))
  go_enter Try.func9, Try.ntmps9
  go_wp2_with fail
  refine (newrc_ok _ [0, 0] (by decide) _ (ints_two H2.out) (by simp)).mono ?_
  rintro e u1 ⟨c0, d0, a0, v0, rfl, -, hB, hI, b1⟩
  have H3 := Lib.hid (H2.out.step b1)
  clear H2
  have H4 := Lib.hid (keep2 b1 H1.out)
  clear H1
  clear b1
  clear H3
  have H5 := Lib.hid (hB)
  have H6 := Lib.hid (hI)
  clear hB hI
  have H7 := Lib.hid (H5.out.step (al u1 (.cells #[.int .i64 (-1), .slice a0 16 c0, .int .i64 0, .slice v0 2 d0, .int .i64 0] 30)))
  clear H5
  have H8 := Lib.hid (H6.out.step (al u1 (.cells #[.int .i64 (-1), .slice a0 16 c0, .int .i64 0, .slice v0 2 d0, .int .i64 0] 30)))
  clear H6
  have H9 := Lib.hid (keep2 (al u1 (.cells #[.int .i64 (-1), .slice a0 16 c0, .int .i64 0, .slice v0 2 d0, .int .i64 0] 30)) H4.out)
  clear H4
  have H10 := Lib.hid (Cs.new u1 (u1.heap.size) #[.int .i64 (-1), .slice a0 16 c0, .int .i64 0, .slice v0 2 d0, .int .i64 0] 30 (by simp))
  have H11 := Lib.hid (H7.out.step (al (u1.alloc (.cells #[.int .i64 (-1), .slice a0 16 c0, .int .i64 0, .slice v0 2 d0, .int .i64 0] 30)) (.cells #[.int .i64 0, .int .i64 1, .int .i64 1, .int .i64 3] 32)))
  clear H7
  have H12 := Lib.hid (H8.out.step (al (u1.alloc (.cells #[.int .i64 (-1), .slice a0 16 c0, .int .i64 0, .slice v0 2 d0, .int .i64 0] 30)) (.cells #[.int .i64 0, .int .i64 1, .int .i64 1, .int .i64 3] 32)))
  clear H8
  have H13 := Lib.hid (H10.out.step (al (u1.alloc (.cells #[.int .i64 (-1), .slice a0 16 c0, .int .i64 0, .slice v0 2 d0, .int .i64 0] 30)) (.cells #[.int .i64 0, .int .i64 1, .int .i64 1, .int .i64 3] 32)))
  clear H10
  have H14 := Lib.hid (keep2 (al (u1.alloc (.cells #[.int .i64 (-1), .slice a0 16 c0, .int .i64 0, .slice v0 2 d0, .int .i64 0] 30)) (.cells #[.int .i64 0, .int .i64 1, .int .i64 1, .int .i64 3] 32)) H9.out)
  clear H9
  have H15 := Lib.hid (Cs.new (u1.alloc (.cells #[.int .i64 (-1), .slice a0 16 c0, .int .i64 0, .slice v0 2 d0, .int .i64 0] 30)) (u1.heap.size + 1) #[.int .i64 0, .int .i64 1, .int .i64 1, .int .i64 3] 32 (by simp))
  have xR00 : ((u1.alloc (.cells #[.int .i64 (-1), .slice a0 16 c0, .int .i64 0, .slice v0 2 d0, .int .i64 0] 30)).alloc (.cells #[.int .i64 0, .int .i64 1, .int .i64 1, .int .i64 3] 32)).cell? ⟨(u1.heap.size), 0, none⟩ = some (.int .i64 (-1)) := H13.out.c 0 rfl
  have xR01 : ((u1.alloc (.cells #[.int .i64 (-1), .slice a0 16 c0, .int .i64 0, .slice v0 2 d0, .int .i64 0] 30)).alloc (.cells #[.int .i64 0, .int .i64 1, .int .i64 1, .int .i64 3] 32)).cell? ⟨(u1.heap.size), 1, none⟩ = some (.slice a0 16 c0) := H13.out.c 1 rfl
  have xR02 : ((u1.alloc (.cells #[.int .i64 (-1), .slice a0 16 c0, .int .i64 0, .slice v0 2 d0, .int .i64 0] 30)).alloc (.cells #[.int .i64 0, .int .i64 1, .int .i64 1, .int .i64 3] 32)).cell? ⟨(u1.heap.size), 2, none⟩ = some (.int .i64 0) := H13.out.c 2 rfl
  have xR03 : ((u1.alloc (.cells #[.int .i64 (-1), .slice a0 16 c0, .int .i64 0, .slice v0 2 d0, .int .i64 0] 30)).alloc (.cells #[.int .i64 0, .int .i64 1, .int .i64 1, .int .i64 3] 32)).cell? ⟨(u1.heap.size), 3, none⟩ = some (.slice v0 2 d0) := H13.out.c 3 rfl
  have xR04 : ((u1.alloc (.cells #[.int .i64 (-1), .slice a0 16 c0, .int .i64 0, .slice v0 2 d0, .int .i64 0] 30)).alloc (.cells #[.int .i64 0, .int .i64 1, .int .i64 1, .int .i64 3] 32)).cell? ⟨(u1.heap.size), 4, none⟩ = some (.int .i64 0) := H13.out.c 4 rfl
  have zR0 : (u1.heap.size) < ((u1.alloc (.cells #[.int .i64 (-1), .slice a0 16 c0, .int .i64 0, .slice v0 2 d0, .int .i64 0] 30)).alloc (.cells #[.int .i64 0, .int .i64 1, .int .i64 1, .int .i64 3] 32)).heap.size := H13.out.2.2
  have xO0 : ((u1.alloc (.cells #[.int .i64 (-1), .slice a0 16 c0, .int .i64 0, .slice v0 2 d0, .int .i64 0] 30)).alloc (.cells #[.int .i64 0, .int .i64 1, .int .i64 1, .int .i64 3] 32)).cell? ⟨(u1.heap.size + 1), 0, none⟩ = some (.int .i64 0) := H15.out.c 0 rfl
  have xO1 : ((u1.alloc (.cells #[.int .i64 (-1), .slice a0 16 c0, .int .i64 0, .slice v0 2 d0, .int .i64 0] 30)).alloc (.cells #[.int .i64 0, .int .i64 1, .int .i64 1, .int .i64 3] 32)).cell? ⟨(u1.heap.size + 1), 1, none⟩ = some (.int .i64 1) := H15.out.c 1 rfl
  have xO2 : ((u1.alloc (.cells #[.int .i64 (-1), .slice a0 16 c0, .int .i64 0, .slice v0 2 d0, .int .i64 0] 30)).alloc (.cells #[.int .i64 0, .int .i64 1, .int .i64 1, .int .i64 3] 32)).cell? ⟨(u1.heap.size + 1), 2, none⟩ = some (.int .i64 1) := H15.out.c 2 rfl
  have xO3 : ((u1.alloc (.cells #[.int .i64 (-1), .slice a0 16 c0, .int .i64 0, .slice v0 2 d0, .int .i64 0] 30)).alloc (.cells #[.int .i64 0, .int .i64 1, .int .i64 1, .int .i64 3] 32)).cell? ⟨(u1.heap.size + 1), 3, none⟩ = some (.int .i64 3) := H15.out.c 3 rfl
  have zO : (u1.heap.size + 1) < ((u1.alloc (.cells #[.int .i64 (-1), .slice a0 16 c0, .int .i64 0, .slice v0 2 d0, .int .i64 0] 30)).alloc (.cells #[.int .i64 0, .int .i64 1, .int .i64 1, .int .i64 3] 32)).heap.size := H15.out.2.2
  go_wp2_with fail
  refine (rcv_lit rw1 (by decide) (by decide) (by decide) _ _ _ H11.out H12.out).mono ?_
  rintro e u2 ⟨c1, d1, a1, v1, rfl, hB, hI, b2⟩
  clear xR00 xR01 xR02 xR03 xR04 zR0 xO0 xO1 xO2 xO3 zO
  have H16 := Lib.hid (H11.out.step b2)
  clear H11
  have H17 := Lib.hid (H12.out.step b2)
  clear H12
  have H18 := Lib.hid (H13.out.step b2)
  clear H13
  have H19 := Lib.hid (H15.out.step b2)
  clear H15
  have H20 := Lib.hid (keep2 b2 H14.out)
  clear H14
  clear b2
  clear H18
  clear H16
  clear H17
  have H21 := Lib.hid (hB)
  have H22 := Lib.hid (hI)
  clear hB hI
  have H23 := Lib.hid (H19.out.step (al u2 (.cells #[.int .i64 0, .slice a1 16 c1, .int .i64 1, .slice v1 2 d1, .int .i64 1] 30)))
  clear H19
  have H24 := Lib.hid (H21.out.step (al u2 (.cells #[.int .i64 0, .slice a1 16 c1, .int .i64 1, .slice v1 2 d1, .int .i64 1] 30)))
  clear H21
  have H25 := Lib.hid (H22.out.step (al u2 (.cells #[.int .i64 0, .slice a1 16 c1, .int .i64 1, .slice v1 2 d1, .int .i64 1] 30)))
  clear H22
  have H26 := Lib.hid (keep2 (al u2 (.cells #[.int .i64 0, .slice a1 16 c1, .int .i64 1, .slice v1 2 d1, .int .i64 1] 30)) H20.out)
  clear H20
  have H27 := Lib.hid (Cs.new u2 (u2.heap.size) #[.int .i64 0, .slice a1 16 c1, .int .i64 1, .slice v1 2 d1, .int .i64 1] 30 (by simp))
  have xR10 : (u2.alloc (.cells #[.int .i64 0, .slice a1 16 c1, .int .i64 1, .slice v1 2 d1, .int .i64 1] 30)).cell? ⟨(u2.heap.size), 0, none⟩ = some (.int .i64 0) := H27.out.c 0 rfl
  have xR11 : (u2.alloc (.cells #[.int .i64 0, .slice a1 16 c1, .int .i64 1, .slice v1 2 d1, .int .i64 1] 30)).cell? ⟨(u2.heap.size), 1, none⟩ = some (.slice a1 16 c1) := H27.out.c 1 rfl
  have xR12 : (u2.alloc (.cells #[.int .i64 0, .slice a1 16 c1, .int .i64 1, .slice v1 2 d1, .int .i64 1] 30)).cell? ⟨(u2.heap.size), 2, none⟩ = some (.int .i64 1) := H27.out.c 2 rfl
  have xR13 : (u2.alloc (.cells #[.int .i64 0, .slice a1 16 c1, .int .i64 1, .slice v1 2 d1, .int .i64 1] 30)).cell? ⟨(u2.heap.size), 3, none⟩ = some (.slice v1 2 d1) := H27.out.c 3 rfl
  have xR14 : (u2.alloc (.cells #[.int .i64 0, .slice a1 16 c1, .int .i64 1, .slice v1 2 d1, .int .i64 1] 30)).cell? ⟨(u2.heap.size), 4, none⟩ = some (.int .i64 1) := H27.out.c 4 rfl
  have zR1 : (u2.heap.size) < (u2.alloc (.cells #[.int .i64 0, .slice a1 16 c1, .int .i64 1, .slice v1 2 d1, .int .i64 1] 30)).heap.size := H27.out.2.2
  have xO0 : (u2.alloc (.cells #[.int .i64 0, .slice a1 16 c1, .int .i64 1, .slice v1 2 d1, .int .i64 1] 30)).cell? ⟨(u1.heap.size + 1), 0, none⟩ = some (.int .i64 0) := H23.out.c 0 rfl
  have xO1 : (u2.alloc (.cells #[.int .i64 0, .slice a1 16 c1, .int .i64 1, .slice v1 2 d1, .int .i64 1] 30)).cell? ⟨(u1.heap.size + 1), 1, none⟩ = some (.int .i64 1) := H23.out.c 1 rfl
  have xO2 : (u2.alloc (.cells #[.int .i64 0, .slice a1 16 c1, .int .i64 1, .slice v1 2 d1, .int .i64 1] 30)).cell? ⟨(u1.heap.size + 1), 2, none⟩ = some (.int .i64 1) := H23.out.c 2 rfl
  have xO3 : (u2.alloc (.cells #[.int .i64 0, .slice a1 16 c1, .int .i64 1, .slice v1 2 d1, .int .i64 1] 30)).cell? ⟨(u1.heap.size + 1), 3, none⟩ = some (.int .i64 3) := H23.out.c 3 rfl
  have zO : (u1.heap.size + 1) < (u2.alloc (.cells #[.int .i64 0, .slice a1 16 c1, .int .i64 1, .slice v1 2 d1, .int .i64 1] 30)).heap.size := H23.out.2.2
  go_wp2_with fail
  refine (rcv_lit rw2 (by decide) (by decide) (by decide) _ _ _ H24.out H25.out).mono ?_
  rintro e u3 ⟨c2, d2, a2, v2, rfl, hB, hI, b3⟩
  clear xR10 xR11 xR12 xR13 xR14 zR1 xO0 xO1 xO2 xO3 zO
  have H28 := Lib.hid (H23.out.step b3)
  clear H23
  have H29 := Lib.hid (H24.out.step b3)
  clear H24
  have H30 := Lib.hid (H25.out.step b3)
  clear H25
  have H31 := Lib.hid (H27.out.step b3)
  clear H27
  have H32 := Lib.hid (keep2 b3 H26.out)
  clear H26
  clear b3
  have H33 := Lib.hid (hB)
  have H34 := Lib.hid (hI)
  clear hB hI
  have H35 := Lib.hid (H28.out.step (al u3 (.cells #[.int .i64 0, .slice a2 16 c2, .int .i64 1, .slice v2 2 d2, .int .i64 1] 30)))
  clear H28
  have H36 := Lib.hid (H29.out.step (al u3 (.cells #[.int .i64 0, .slice a2 16 c2, .int .i64 1, .slice v2 2 d2, .int .i64 1] 30)))
  clear H29
  have H37 := Lib.hid (H30.out.step (al u3 (.cells #[.int .i64 0, .slice a2 16 c2, .int .i64 1, .slice v2 2 d2, .int .i64 1] 30)))
  clear H30
  have H38 := Lib.hid (H31.out.step (al u3 (.cells #[.int .i64 0, .slice a2 16 c2, .int .i64 1, .slice v2 2 d2, .int .i64 1] 30)))
  clear H31
  have H39 := Lib.hid (H33.out.step (al u3 (.cells #[.int .i64 0, .slice a2 16 c2, .int .i64 1, .slice v2 2 d2, .int .i64 1] 30)))
  clear H33
  have H40 := Lib.hid (H34.out.step (al u3 (.cells #[.int .i64 0, .slice a2 16 c2, .int .i64 1, .slice v2 2 d2, .int .i64 1] 30)))
  clear H34
  have H41 := Lib.hid (keep2 (al u3 (.cells #[.int .i64 0, .slice a2 16 c2, .int .i64 1, .slice v2 2 d2, .int .i64 1] 30)) H32.out)
  clear H32
  have H42 := Lib.hid (Cs.new u3 (u3.heap.size) #[.int .i64 0, .slice a2 16 c2, .int .i64 1, .slice v2 2 d2, .int .i64 1] 30 (by simp))
  have xR20 : (u3.alloc (.cells #[.int .i64 0, .slice a2 16 c2, .int .i64 1, .slice v2 2 d2, .int .i64 1] 30)).cell? ⟨(u3.heap.size), 0, none⟩ = some (.int .i64 0) := H42.out.c 0 rfl
  have xR21 : (u3.alloc (.cells #[.int .i64 0, .slice a2 16 c2, .int .i64 1, .slice v2 2 d2, .int .i64 1] 30)).cell? ⟨(u3.heap.size), 1, none⟩ = some (.slice a2 16 c2) := H42.out.c 1 rfl
  have xR22 : (u3.alloc (.cells #[.int .i64 0, .slice a2 16 c2, .int .i64 1, .slice v2 2 d2, .int .i64 1] 30)).cell? ⟨(u3.heap.size), 2, none⟩ = some (.int .i64 1) := H42.out.c 2 rfl
  have xR23 : (u3.alloc (.cells #[.int .i64 0, .slice a2 16 c2, .int .i64 1, .slice v2 2 d2, .int .i64 1] 30)).cell? ⟨(u3.heap.size), 3, none⟩ = some (.slice v2 2 d2) := H42.out.c 3 rfl
  have xR24 : (u3.alloc (.cells #[.int .i64 0, .slice a2 16 c2, .int .i64 1, .slice v2 2 d2, .int .i64 1] 30)).cell? ⟨(u3.heap.size), 4, none⟩ = some (.int .i64 1) := H42.out.c 4 rfl
  have zR2 : (u3.heap.size) < (u3.alloc (.cells #[.int .i64 0, .slice a2 16 c2, .int .i64 1, .slice v2 2 d2, .int .i64 1] 30)).heap.size := H42.out.2.2
  go_wp2_with fail
  refine (rcv_lit rw3 (by decide) (by decide) (by decide) _ _ _ H39.out H40.out).mono ?_
  rintro e u4 ⟨c3, d3, a3, v3, rfl, hB, hI, b4⟩
  clear xR20 xR21 xR22 xR23 xR24 zR2
  have H43 := Lib.hid (H35.out.step b4)
  clear H35
  have H44 := Lib.hid (H36.out.step b4)
  clear H36
  have H45 := Lib.hid (H37.out.step b4)
  clear H37
  have H46 := Lib.hid (H38.out.step b4)
  clear H38
  have H47 := Lib.hid (H39.out.step b4)
  clear H39
  have H48 := Lib.hid (H40.out.step b4)
  clear H40
  have H49 := Lib.hid (H42.out.step b4)
  clear H42
  have H50 := Lib.hid (keep2 b4 H41.out)
  clear H41
  clear b4
  have H51 := Lib.hid (hB)
  have H52 := Lib.hid (hI)
  clear hB hI
  have H53 := Lib.hid (H43.out.step (al u4 (.cells #[.int .i64 5, .slice a3 16 c3, .int .i64 2, .slice v3 2 d3, .int .i64 2] 30)))
  clear H43
  have H54 := Lib.hid (H44.out.step (al u4 (.cells #[.int .i64 5, .slice a3 16 c3, .int .i64 2, .slice v3 2 d3, .int .i64 2] 30)))
  clear H44
  have H55 := Lib.hid (H45.out.step (al u4 (.cells #[.int .i64 5, .slice a3 16 c3, .int .i64 2, .slice v3 2 d3, .int .i64 2] 30)))
  clear H45
  have H56 := Lib.hid (H46.out.step (al u4 (.cells #[.int .i64 5, .slice a3 16 c3, .int .i64 2, .slice v3 2 d3, .int .i64 2] 30)))
  clear H46
  have H57 := Lib.hid (H47.out.step (al u4 (.cells #[.int .i64 5, .slice a3 16 c3, .int .i64 2, .slice v3 2 d3, .int .i64 2] 30)))
  clear H47
  have H58 := Lib.hid (H48.out.step (al u4 (.cells #[.int .i64 5, .slice a3 16 c3, .int .i64 2, .slice v3 2 d3, .int .i64 2] 30)))
  clear H48
  have H59 := Lib.hid (H49.out.step (al u4 (.cells #[.int .i64 5, .slice a3 16 c3, .int .i64 2, .slice v3 2 d3, .int .i64 2] 30)))
  clear H49
  have H60 := Lib.hid (H51.out.step (al u4 (.cells #[.int .i64 5, .slice a3 16 c3, .int .i64 2, .slice v3 2 d3, .int .i64 2] 30)))
  clear H51
  have H61 := Lib.hid (H52.out.step (al u4 (.cells #[.int .i64 5, .slice a3 16 c3, .int .i64 2, .slice v3 2 d3, .int .i64 2] 30)))
  clear H52
  have H62 := Lib.hid (keep2 (al u4 (.cells #[.int .i64 5, .slice a3 16 c3, .int .i64 2, .slice v3 2 d3, .int .i64 2] 30)) H50.out)
  clear H50
  have H63 := Lib.hid (Cs.new u4 (u4.heap.size) #[.int .i64 5, .slice a3 16 c3, .int .i64 2, .slice v3 2 d3, .int .i64 2] 30 (by simp))
  have xR30 : (u4.alloc (.cells #[.int .i64 5, .slice a3 16 c3, .int .i64 2, .slice v3 2 d3, .int .i64 2] 30)).cell? ⟨(u4.heap.size), 0, none⟩ = some (.int .i64 5) := H63.out.c 0 rfl
  have xR31 : (u4.alloc (.cells #[.int .i64 5, .slice a3 16 c3, .int .i64 2, .slice v3 2 d3, .int .i64 2] 30)).cell? ⟨(u4.heap.size), 1, none⟩ = some (.slice a3 16 c3) := H63.out.c 1 rfl
  have xR32 : (u4.alloc (.cells #[.int .i64 5, .slice a3 16 c3, .int .i64 2, .slice v3 2 d3, .int .i64 2] 30)).cell? ⟨(u4.heap.size), 2, none⟩ = some (.int .i64 2) := H63.out.c 2 rfl
  have xR33 : (u4.alloc (.cells #[.int .i64 5, .slice a3 16 c3, .int .i64 2, .slice v3 2 d3, .int .i64 2] 30)).cell? ⟨(u4.heap.size), 3, none⟩ = some (.slice v3 2 d3) := H63.out.c 3 rfl
  have xR34 : (u4.alloc (.cells #[.int .i64 5, .slice a3 16 c3, .int .i64 2, .slice v3 2 d3, .int .i64 2] 30)).cell? ⟨(u4.heap.size), 4, none⟩ = some (.int .i64 2) := H63.out.c 4 rfl
  have zR3 : (u4.heap.size) < (u4.alloc (.cells #[.int .i64 5, .slice a3 16 c3, .int .i64 2, .slice v3 2 d3, .int .i64 2] 30)).heap.size := H63.out.2.2
  go_wp2_with fail
  refine (rcv_lit rw4 (by decide) (by decide) (by decide) _ _ _ H60.out H61.out).mono ?_
  rintro e u5 ⟨c4, d4, a4, v4, rfl, hB, hI, b5⟩
  clear xR30 xR31 xR32 xR33 xR34 zR3
  have H64 := Lib.hid (H53.out.step b5)
  clear H53
  have H65 := Lib.hid (H54.out.step b5)
  clear H54
  have H66 := Lib.hid (H55.out.step b5)
  clear H55
  have H67 := Lib.hid (H56.out.step b5)
  clear H56
  have H68 := Lib.hid (H57.out.step b5)
  clear H57
  have H69 := Lib.hid (H58.out.step b5)
  clear H58
  have H70 := Lib.hid (H59.out.step b5)
  clear H59
  have H71 := Lib.hid (H60.out.step b5)
  clear H60
  have H72 := Lib.hid (H61.out.step b5)
  clear H61
  have H73 := Lib.hid (H63.out.step b5)
  clear H63
  have H74 := Lib.hid (keep2 b5 H62.out)
  clear H62
  clear b5
  have H75 := Lib.hid (hB)
  have H76 := Lib.hid (hI)
  clear hB hI
  have H77 := Lib.hid (H64.out.step (al u5 (.cells #[.int .i64 5, .slice a4 16 c4, .int .i64 2, .slice v4 2 d4, .int .i64 2] 30)))
  clear H64
  have H78 := Lib.hid (H65.out.step (al u5 (.cells #[.int .i64 5, .slice a4 16 c4, .int .i64 2, .slice v4 2 d4, .int .i64 2] 30)))
  clear H65
  have H79 := Lib.hid (H66.out.step (al u5 (.cells #[.int .i64 5, .slice a4 16 c4, .int .i64 2, .slice v4 2 d4, .int .i64 2] 30)))
  clear H66
  have H80 := Lib.hid (H67.out.step (al u5 (.cells #[.int .i64 5, .slice a4 16 c4, .int .i64 2, .slice v4 2 d4, .int .i64 2] 30)))
  clear H67
  have H81 := Lib.hid (H68.out.step (al u5 (.cells #[.int .i64 5, .slice a4 16 c4, .int .i64 2, .slice v4 2 d4, .int .i64 2] 30)))
  clear H68
  have H82 := Lib.hid (H69.out.step (al u5 (.cells #[.int .i64 5, .slice a4 16 c4, .int .i64 2, .slice v4 2 d4, .int .i64 2] 30)))
  clear H69
  have H83 := Lib.hid (H70.out.step (al u5 (.cells #[.int .i64 5, .slice a4 16 c4, .int .i64 2, .slice v4 2 d4, .int .i64 2] 30)))
  clear H70
  have H84 := Lib.hid (H71.out.step (al u5 (.cells #[.int .i64 5, .slice a4 16 c4, .int .i64 2, .slice v4 2 d4, .int .i64 2] 30)))
  clear H71
  have H85 := Lib.hid (H72.out.step (al u5 (.cells #[.int .i64 5, .slice a4 16 c4, .int .i64 2, .slice v4 2 d4, .int .i64 2] 30)))
  clear H72
  have H86 := Lib.hid (H73.out.step (al u5 (.cells #[.int .i64 5, .slice a4 16 c4, .int .i64 2, .slice v4 2 d4, .int .i64 2] 30)))
  clear H73
  have H87 := Lib.hid (H75.out.step (al u5 (.cells #[.int .i64 5, .slice a4 16 c4, .int .i64 2, .slice v4 2 d4, .int .i64 2] 30)))
  clear H75
  have H88 := Lib.hid (H76.out.step (al u5 (.cells #[.int .i64 5, .slice a4 16 c4, .int .i64 2, .slice v4 2 d4, .int .i64 2] 30)))
  clear H76
  have H89 := Lib.hid (keep2 (al u5 (.cells #[.int .i64 5, .slice a4 16 c4, .int .i64 2, .slice v4 2 d4, .int .i64 2] 30)) H74.out)
  clear H74
  have H90 := Lib.hid (Cs.new u5 (u5.heap.size) #[.int .i64 5, .slice a4 16 c4, .int .i64 2, .slice v4 2 d4, .int .i64 2] 30 (by simp))
  have xR40 : (u5.alloc (.cells #[.int .i64 5, .slice a4 16 c4, .int .i64 2, .slice v4 2 d4, .int .i64 2] 30)).cell? ⟨(u5.heap.size), 0, none⟩ = some (.int .i64 5) := H90.out.c 0 rfl
  have xR41 : (u5.alloc (.cells #[.int .i64 5, .slice a4 16 c4, .int .i64 2, .slice v4 2 d4, .int .i64 2] 30)).cell? ⟨(u5.heap.size), 1, none⟩ = some (.slice a4 16 c4) := H90.out.c 1 rfl
  have xR42 : (u5.alloc (.cells #[.int .i64 5, .slice a4 16 c4, .int .i64 2, .slice v4 2 d4, .int .i64 2] 30)).cell? ⟨(u5.heap.size), 2, none⟩ = some (.int .i64 2) := H90.out.c 2 rfl
  have xR43 : (u5.alloc (.cells #[.int .i64 5, .slice a4 16 c4, .int .i64 2, .slice v4 2 d4, .int .i64 2] 30)).cell? ⟨(u5.heap.size), 3, none⟩ = some (.slice v4 2 d4) := H90.out.c 3 rfl
  have xR44 : (u5.alloc (.cells #[.int .i64 5, .slice a4 16 c4, .int .i64 2, .slice v4 2 d4, .int .i64 2] 30)).cell? ⟨(u5.heap.size), 4, none⟩ = some (.int .i64 2) := H90.out.c 4 rfl
  have zR4 : (u5.heap.size) < (u5.alloc (.cells #[.int .i64 5, .slice a4 16 c4, .int .i64 2, .slice v4 2 d4, .int .i64 2] 30)).heap.size := H90.out.2.2
  have xO0 : (u5.alloc (.cells #[.int .i64 5, .slice a4 16 c4, .int .i64 2, .slice v4 2 d4, .int .i64 2] 30)).cell? ⟨(u1.heap.size + 1), 0, none⟩ = some (.int .i64 0) := H77.out.c 0 rfl
  have xO1 : (u5.alloc (.cells #[.int .i64 5, .slice a4 16 c4, .int .i64 2, .slice v4 2 d4, .int .i64 2] 30)).cell? ⟨(u1.heap.size + 1), 1, none⟩ = some (.int .i64 1) := H77.out.c 1 rfl
  have xO2 : (u5.alloc (.cells #[.int .i64 5, .slice a4 16 c4, .int .i64 2, .slice v4 2 d4, .int .i64 2] 30)).cell? ⟨(u1.heap.size + 1), 2, none⟩ = some (.int .i64 1) := H77.out.c 2 rfl
  have xO3 : (u5.alloc (.cells #[.int .i64 5, .slice a4 16 c4, .int .i64 2, .slice v4 2 d4, .int .i64 2] 30)).cell? ⟨(u1.heap.size + 1), 3, none⟩ = some (.int .i64 3) := H77.out.c 3 rfl
  have zO : (u1.heap.size + 1) < (u5.alloc (.cells #[.int .i64 5, .slice a4 16 c4, .int .i64 2, .slice v4 2 d4, .int .i64 2] 30)).heap.size := H77.out.2.2
  go_wp2_with fail
  refine (rcv_lit rw5 (by decide) (by decide) (by decide) _ _ _ H87.out H88.out).mono ?_
  rintro e u6 ⟨c5, d5, a5, v5, rfl, hB, hI, b6⟩
  clear xR40 xR41 xR42 xR43 xR44 zR4 xO0 xO1 xO2 xO3 zO
  have H91 := Lib.hid (H77.out.step b6)
  clear H77
  have H92 := Lib.hid (H78.out.step b6)
  clear H78
  have H93 := Lib.hid (H79.out.step b6)
  clear H79
  have H94 := Lib.hid (H80.out.step b6)
  clear H80
  have H95 := Lib.hid (H81.out.step b6)
  clear H81
  have H96 := Lib.hid (H82.out.step b6)
  clear H82
  have H97 := Lib.hid (H83.out.step b6)
  clear H83
  have H98 := Lib.hid (H84.out.step b6)
  clear H84
  have H99 := Lib.hid (H85.out.step b6)
  clear H85
  have H100 := Lib.hid (H86.out.step b6)
  clear H86
  have H101 := Lib.hid (H87.out.step b6)
  clear H87
  have H102 := Lib.hid (H88.out.step b6)
  clear H88
  have H103 := Lib.hid (H90.out.step b6)
  clear H90
  have H104 := Lib.hid (keep2 b6 H89.out)
  clear H89
  clear b6
  have H105 := Lib.hid (hB)
  have H106 := Lib.hid (hI)
  clear hB hI
  have H107 := Lib.hid (H91.out.step (al u6 (.cells #[.int .i64 5, .slice a5 16 c5, .int .i64 2, .slice v5 2 d5, .int .i64 2] 30)))
  clear H91
  have H108 := Lib.hid (H92.out.step (al u6 (.cells #[.int .i64 5, .slice a5 16 c5, .int .i64 2, .slice v5 2 d5, .int .i64 2] 30)))
  clear H92
  have H109 := Lib.hid (H93.out.step (al u6 (.cells #[.int .i64 5, .slice a5 16 c5, .int .i64 2, .slice v5 2 d5, .int .i64 2] 30)))
  clear H93
  have H110 := Lib.hid (H94.out.step (al u6 (.cells #[.int .i64 5, .slice a5 16 c5, .int .i64 2, .slice v5 2 d5, .int .i64 2] 30)))
  clear H94
  have H111 := Lib.hid (H95.out.step (al u6 (.cells #[.int .i64 5, .slice a5 16 c5, .int .i64 2, .slice v5 2 d5, .int .i64 2] 30)))
  clear H95
  have H112 := Lib.hid (H96.out.step (al u6 (.cells #[.int .i64 5, .slice a5 16 c5, .int .i64 2, .slice v5 2 d5, .int .i64 2] 30)))
  clear H96
  have H113 := Lib.hid (H97.out.step (al u6 (.cells #[.int .i64 5, .slice a5 16 c5, .int .i64 2, .slice v5 2 d5, .int .i64 2] 30)))
  clear H97
  have H114 := Lib.hid (H98.out.step (al u6 (.cells #[.int .i64 5, .slice a5 16 c5, .int .i64 2, .slice v5 2 d5, .int .i64 2] 30)))
  clear H98
  have H115 := Lib.hid (H99.out.step (al u6 (.cells #[.int .i64 5, .slice a5 16 c5, .int .i64 2, .slice v5 2 d5, .int .i64 2] 30)))
  clear H99
  have H116 := Lib.hid (H100.out.step (al u6 (.cells #[.int .i64 5, .slice a5 16 c5, .int .i64 2, .slice v5 2 d5, .int .i64 2] 30)))
  clear H100
  have H117 := Lib.hid (H101.out.step (al u6 (.cells #[.int .i64 5, .slice a5 16 c5, .int .i64 2, .slice v5 2 d5, .int .i64 2] 30)))
  clear H101
  have H118 := Lib.hid (H102.out.step (al u6 (.cells #[.int .i64 5, .slice a5 16 c5, .int .i64 2, .slice v5 2 d5, .int .i64 2] 30)))
  clear H102
  have H119 := Lib.hid (H103.out.step (al u6 (.cells #[.int .i64 5, .slice a5 16 c5, .int .i64 2, .slice v5 2 d5, .int .i64 2] 30)))
  clear H103
  have H120 := Lib.hid (H105.out.step (al u6 (.cells #[.int .i64 5, .slice a5 16 c5, .int .i64 2, .slice v5 2 d5, .int .i64 2] 30)))
  clear H105
  have H121 := Lib.hid (H106.out.step (al u6 (.cells #[.int .i64 5, .slice a5 16 c5, .int .i64 2, .slice v5 2 d5, .int .i64 2] 30)))
  clear H106
  have H122 := Lib.hid (keep2 (al u6 (.cells #[.int .i64 5, .slice a5 16 c5, .int .i64 2, .slice v5 2 d5, .int .i64 2] 30)) H104.out)
  clear H104
  have H123 := Lib.hid (Cs.new u6 (u6.heap.size) #[.int .i64 5, .slice a5 16 c5, .int .i64 2, .slice v5 2 d5, .int .i64 2] 30 (by simp))
  have xR50 : (u6.alloc (.cells #[.int .i64 5, .slice a5 16 c5, .int .i64 2, .slice v5 2 d5, .int .i64 2] 30)).cell? ⟨(u6.heap.size), 0, none⟩ = some (.int .i64 5) := H123.out.c 0 rfl
  have xR51 : (u6.alloc (.cells #[.int .i64 5, .slice a5 16 c5, .int .i64 2, .slice v5 2 d5, .int .i64 2] 30)).cell? ⟨(u6.heap.size), 1, none⟩ = some (.slice a5 16 c5) := H123.out.c 1 rfl
  have xR52 : (u6.alloc (.cells #[.int .i64 5, .slice a5 16 c5, .int .i64 2, .slice v5 2 d5, .int .i64 2] 30)).cell? ⟨(u6.heap.size), 2, none⟩ = some (.int .i64 2) := H123.out.c 2 rfl
  have xR53 : (u6.alloc (.cells #[.int .i64 5, .slice a5 16 c5, .int .i64 2, .slice v5 2 d5, .int .i64 2] 30)).cell? ⟨(u6.heap.size), 3, none⟩ = some (.slice v5 2 d5) := H123.out.c 3 rfl
  have xR54 : (u6.alloc (.cells #[.int .i64 5, .slice a5 16 c5, .int .i64 2, .slice v5 2 d5, .int .i64 2] 30)).cell? ⟨(u6.heap.size), 4, none⟩ = some (.int .i64 2) := H123.out.c 4 rfl
  have zR5 : (u6.heap.size) < (u6.alloc (.cells #[.int .i64 5, .slice a5 16 c5, .int .i64 2, .slice v5 2 d5, .int .i64 2] 30)).heap.size := H123.out.2.2
  go_wp2_with fail
  refine (rcv_lit rw6 (by decide) (by decide) (by decide) _ _ _ H120.out H121.out).mono ?_
  rintro e u7 ⟨c6, d6, a6, v6, rfl, hB, hI, b7⟩
  clear xR50 xR51 xR52 xR53 xR54 zR5
  have H124 := Lib.hid (H107.out.step b7)
  clear H107
  have H125 := Lib.hid (H108.out.step b7)
  clear H108
  have H126 := Lib.hid (H109.out.step b7)
  clear H109
  have H127 := Lib.hid (H110.out.step b7)
  clear H110
  have H128 := Lib.hid (H111.out.step b7)
  clear H111
  have H129 := Lib.hid (H112.out.step b7)
  clear H112
  have H130 := Lib.hid (H113.out.step b7)
  clear H113
  have H131 := Lib.hid (H114.out.step b7)
  clear H114
  have H132 := Lib.hid (H115.out.step b7)
  clear H115
  have H133 := Lib.hid (H116.out.step b7)
  clear H116
  have H134 := Lib.hid (H117.out.step b7)
  clear H117
  have H135 := Lib.hid (H118.out.step b7)
  clear H118
  have H136 := Lib.hid (H119.out.step b7)
  clear H119
  have H137 := Lib.hid (H120.out.step b7)
  clear H120
  have H138 := Lib.hid (H121.out.step b7)
  clear H121
  have H139 := Lib.hid (H123.out.step b7)
  clear H123
  have H140 := Lib.hid (keep2 b7 H122.out)
  clear H122
  clear b7
  clear H139
  clear H137
  clear H138
  have H141 := Lib.hid (hB)
  have H142 := Lib.hid (hI)
  clear hB hI
  have H143 := Lib.hid (H124.out.step (al u7 (.cells #[.int .i64 16, .slice a6 16 c6, .int .i64 2, .slice v6 2 d6, .int .i64 3] 30)))
  clear H124
  have H144 := Lib.hid (H125.out.step (al u7 (.cells #[.int .i64 16, .slice a6 16 c6, .int .i64 2, .slice v6 2 d6, .int .i64 3] 30)))
  clear H125
  have H145 := Lib.hid (H126.out.step (al u7 (.cells #[.int .i64 16, .slice a6 16 c6, .int .i64 2, .slice v6 2 d6, .int .i64 3] 30)))
  clear H126
  have H146 := Lib.hid (H127.out.step (al u7 (.cells #[.int .i64 16, .slice a6 16 c6, .int .i64 2, .slice v6 2 d6, .int .i64 3] 30)))
  clear H127
  have H147 := Lib.hid (H128.out.step (al u7 (.cells #[.int .i64 16, .slice a6 16 c6, .int .i64 2, .slice v6 2 d6, .int .i64 3] 30)))
  clear H128
  have H148 := Lib.hid (H129.out.step (al u7 (.cells #[.int .i64 16, .slice a6 16 c6, .int .i64 2, .slice v6 2 d6, .int .i64 3] 30)))
  clear H129
  have H149 := Lib.hid (H130.out.step (al u7 (.cells #[.int .i64 16, .slice a6 16 c6, .int .i64 2, .slice v6 2 d6, .int .i64 3] 30)))
  clear H130
  have H150 := Lib.hid (H131.out.step (al u7 (.cells #[.int .i64 16, .slice a6 16 c6, .int .i64 2, .slice v6 2 d6, .int .i64 3] 30)))
  clear H131
  have H151 := Lib.hid (H132.out.step (al u7 (.cells #[.int .i64 16, .slice a6 16 c6, .int .i64 2, .slice v6 2 d6, .int .i64 3] 30)))
  clear H132
  have H152 := Lib.hid (H133.out.step (al u7 (.cells #[.int .i64 16, .slice a6 16 c6, .int .i64 2, .slice v6 2 d6, .int .i64 3] 30)))
  clear H133
  have H153 := Lib.hid (H134.out.step (al u7 (.cells #[.int .i64 16, .slice a6 16 c6, .int .i64 2, .slice v6 2 d6, .int .i64 3] 30)))
  clear H134
  have H154 := Lib.hid (H135.out.step (al u7 (.cells #[.int .i64 16, .slice a6 16 c6, .int .i64 2, .slice v6 2 d6, .int .i64 3] 30)))
  clear H135
  have H155 := Lib.hid (H136.out.step (al u7 (.cells #[.int .i64 16, .slice a6 16 c6, .int .i64 2, .slice v6 2 d6, .int .i64 3] 30)))
  clear H136
  have H156 := Lib.hid (H141.out.step (al u7 (.cells #[.int .i64 16, .slice a6 16 c6, .int .i64 2, .slice v6 2 d6, .int .i64 3] 30)))
  clear H141
  have H157 := Lib.hid (H142.out.step (al u7 (.cells #[.int .i64 16, .slice a6 16 c6, .int .i64 2, .slice v6 2 d6, .int .i64 3] 30)))
  clear H142
  have H158 := Lib.hid (keep2 (al u7 (.cells #[.int .i64 16, .slice a6 16 c6, .int .i64 2, .slice v6 2 d6, .int .i64 3] 30)) H140.out)
  clear H140
  have H159 := Lib.hid (Cs.new u7 (u7.heap.size) #[.int .i64 16, .slice a6 16 c6, .int .i64 2, .slice v6 2 d6, .int .i64 3] 30 (by simp))
  have xR60 : (u7.alloc (.cells #[.int .i64 16, .slice a6 16 c6, .int .i64 2, .slice v6 2 d6, .int .i64 3] 30)).cell? ⟨(u7.heap.size), 0, none⟩ = some (.int .i64 16) := H159.out.c 0 rfl
  have xR61 : (u7.alloc (.cells #[.int .i64 16, .slice a6 16 c6, .int .i64 2, .slice v6 2 d6, .int .i64 3] 30)).cell? ⟨(u7.heap.size), 1, none⟩ = some (.slice a6 16 c6) := H159.out.c 1 rfl
  have xR62 : (u7.alloc (.cells #[.int .i64 16, .slice a6 16 c6, .int .i64 2, .slice v6 2 d6, .int .i64 3] 30)).cell? ⟨(u7.heap.size), 2, none⟩ = some (.int .i64 2) := H159.out.c 2 rfl
  have xR63 : (u7.alloc (.cells #[.int .i64 16, .slice a6 16 c6, .int .i64 2, .slice v6 2 d6, .int .i64 3] 30)).cell? ⟨(u7.heap.size), 3, none⟩ = some (.slice v6 2 d6) := H159.out.c 3 rfl
  have xR64 : (u7.alloc (.cells #[.int .i64 16, .slice a6 16 c6, .int .i64 2, .slice v6 2 d6, .int .i64 3] 30)).cell? ⟨(u7.heap.size), 4, none⟩ = some (.int .i64 3) := H159.out.c 4 rfl
  have zR6 : (u7.heap.size) < (u7.alloc (.cells #[.int .i64 16, .slice a6 16 c6, .int .i64 2, .slice v6 2 d6, .int .i64 3] 30)).heap.size := H159.out.2.2
  have xO0 : (u7.alloc (.cells #[.int .i64 16, .slice a6 16 c6, .int .i64 2, .slice v6 2 d6, .int .i64 3] 30)).cell? ⟨(u1.heap.size + 1), 0, none⟩ = some (.int .i64 0) := H143.out.c 0 rfl
  have xO1 : (u7.alloc (.cells #[.int .i64 16, .slice a6 16 c6, .int .i64 2, .slice v6 2 d6, .int .i64 3] 30)).cell? ⟨(u1.heap.size + 1), 1, none⟩ = some (.int .i64 1) := H143.out.c 1 rfl
  have xO2 : (u7.alloc (.cells #[.int .i64 16, .slice a6 16 c6, .int .i64 2, .slice v6 2 d6, .int .i64 3] 30)).cell? ⟨(u1.heap.size + 1), 2, none⟩ = some (.int .i64 1) := H143.out.c 2 rfl
  have xO3 : (u7.alloc (.cells #[.int .i64 16, .slice a6 16 c6, .int .i64 2, .slice v6 2 d6, .int .i64 3] 30)).cell? ⟨(u1.heap.size + 1), 3, none⟩ = some (.int .i64 3) := H143.out.c 3 rfl
  have zO : (u1.heap.size + 1) < (u7.alloc (.cells #[.int .i64 16, .slice a6 16 c6, .int .i64 2, .slice v6 2 d6, .int .i64 3] 30)).heap.size := H143.out.2.2
  go_wp2_with fail
  refine (rcv_lit rw7 (by decide) (by decide) (by decide) _ _ _ H156.out H157.out).mono ?_
  rintro e u8 ⟨c7, d7, a7, v7, rfl, hB, hI, b8⟩
  clear xR60 xR61 xR62 xR63 xR64 zR6 xO0 xO1 xO2 xO3 zO
  have H160 := Lib.hid (H143.out.step b8)
  clear H143
  have H161 := Lib.hid (H144.out.step b8)
  clear H144
  have H162 := Lib.hid (H145.out.step b8)
  clear H145
  have H163 := Lib.hid (H146.out.step b8)
  clear H146
  have H164 := Lib.hid (H147.out.step b8)
  clear H147
  have H165 := Lib.hid (H148.out.step b8)
  clear H148
  have H166 := Lib.hid (H149.out.step b8)
  clear H149
  have H167 := Lib.hid (H150.out.step b8)
  clear H150
  have H168 := Lib.hid (H151.out.step b8)
  clear H151
  have H169 := Lib.hid (H152.out.step b8)
  clear H152
  have H170 := Lib.hid (H153.out.step b8)
  clear H153
  have H171 := Lib.hid (H154.out.step b8)
  clear H154
  have H172 := Lib.hid (H155.out.step b8)
  clear H155
  have H173 := Lib.hid (H156.out.step b8)
  clear H156
  have H174 := Lib.hid (H157.out.step b8)
  clear H157
  have H175 := Lib.hid (H159.out.step b8)
  clear H159
  have H176 := Lib.hid (keep2 b8 H158.out)
  clear H158
  clear b8
  clear H175
  clear H173
  clear H174
  have H177 := Lib.hid (hB)
  have H178 := Lib.hid (hI)
  clear hB hI
  have H179 := Lib.hid (H160.out.step (al u8 (.cells #[.int .i64 16, .slice a7 16 c7, .int .i64 2, .slice v7 2 d7, .int .i64 3] 30)))
  clear H160
  have H180 := Lib.hid (H161.out.step (al u8 (.cells #[.int .i64 16, .slice a7 16 c7, .int .i64 2, .slice v7 2 d7, .int .i64 3] 30)))
  clear H161
  have H181 := Lib.hid (H162.out.step (al u8 (.cells #[.int .i64 16, .slice a7 16 c7, .int .i64 2, .slice v7 2 d7, .int .i64 3] 30)))
  clear H162
  have H182 := Lib.hid (H163.out.step (al u8 (.cells #[.int .i64 16, .slice a7 16 c7, .int .i64 2, .slice v7 2 d7, .int .i64 3] 30)))
  clear H163
  have H183 := Lib.hid (H164.out.step (al u8 (.cells #[.int .i64 16, .slice a7 16 c7, .int .i64 2, .slice v7 2 d7, .int .i64 3] 30)))
  clear H164
  have H184 := Lib.hid (H165.out.step (al u8 (.cells #[.int .i64 16, .slice a7 16 c7, .int .i64 2, .slice v7 2 d7, .int .i64 3] 30)))
  clear H165
  have H185 := Lib.hid (H166.out.step (al u8 (.cells #[.int .i64 16, .slice a7 16 c7, .int .i64 2, .slice v7 2 d7, .int .i64 3] 30)))
  clear H166
  have H186 := Lib.hid (H167.out.step (al u8 (.cells #[.int .i64 16, .slice a7 16 c7, .int .i64 2, .slice v7 2 d7, .int .i64 3] 30)))
  clear H167
  have H187 := Lib.hid (H168.out.step (al u8 (.cells #[.int .i64 16, .slice a7 16 c7, .int .i64 2, .slice v7 2 d7, .int .i64 3] 30)))
  clear H168
  have H188 := Lib.hid (H169.out.step (al u8 (.cells #[.int .i64 16, .slice a7 16 c7, .int .i64 2, .slice v7 2 d7, .int .i64 3] 30)))
  clear H169
  have H189 := Lib.hid (H170.out.step (al u8 (.cells #[.int .i64 16, .slice a7 16 c7, .int .i64 2, .slice v7 2 d7, .int .i64 3] 30)))
  clear H170
  have H190 := Lib.hid (H171.out.step (al u8 (.cells #[.int .i64 16, .slice a7 16 c7, .int .i64 2, .slice v7 2 d7, .int .i64 3] 30)))
  clear H171
  have H191 := Lib.hid (H172.out.step (al u8 (.cells #[.int .i64 16, .slice a7 16 c7, .int .i64 2, .slice v7 2 d7, .int .i64 3] 30)))
  clear H172
  have H192 := Lib.hid (H177.out.step (al u8 (.cells #[.int .i64 16, .slice a7 16 c7, .int .i64 2, .slice v7 2 d7, .int .i64 3] 30)))
  clear H177
  have H193 := Lib.hid (H178.out.step (al u8 (.cells #[.int .i64 16, .slice a7 16 c7, .int .i64 2, .slice v7 2 d7, .int .i64 3] 30)))
  clear H178
  have H194 := Lib.hid (keep2 (al u8 (.cells #[.int .i64 16, .slice a7 16 c7, .int .i64 2, .slice v7 2 d7, .int .i64 3] 30)) H176.out)
  clear H176
  have H195 := Lib.hid (Cs.new u8 (u8.heap.size) #[.int .i64 16, .slice a7 16 c7, .int .i64 2, .slice v7 2 d7, .int .i64 3] 30 (by simp))
  go_wp2_with fail
  clear H195
  clear H192
  clear H193
  refine (send_lit _).mono ?_
  rintro e u9 ⟨c8, a8, rfl, hO, b9⟩
  have H196 := Lib.hid (H179.out.step b9)
  clear H179
  have H197 := Lib.hid (H180.out.step b9)
  clear H180
  have H198 := Lib.hid (H181.out.step b9)
  clear H181
  have H199 := Lib.hid (H182.out.step b9)
  clear H182
  have H200 := Lib.hid (H183.out.step b9)
  clear H183
  have H201 := Lib.hid (H184.out.step b9)
  clear H184
  have H202 := Lib.hid (H185.out.step b9)
  clear H185
  have H203 := Lib.hid (H186.out.step b9)
  clear H186
  have H204 := Lib.hid (H187.out.step b9)
  clear H187
  have H205 := Lib.hid (H188.out.step b9)
  clear H188
  have H206 := Lib.hid (H189.out.step b9)
  clear H189
  have H207 := Lib.hid (H190.out.step b9)
  clear H190
  have H208 := Lib.hid (H191.out.step b9)
  clear H191
  have H209 := Lib.hid (keep2 b9 H194.out)
  clear H194
  clear b9
  have H210 := Lib.hid (hO)
  clear hO
  have H211 := Lib.hid (H196.out.step (al u9 (.cells #[.int .i64 1, .slice a8 1 c8] 24)))
  clear H196
  have H212 := Lib.hid (H197.out.step (al u9 (.cells #[.int .i64 1, .slice a8 1 c8] 24)))
  clear H197
  have H213 := Lib.hid (H198.out.step (al u9 (.cells #[.int .i64 1, .slice a8 1 c8] 24)))
  clear H198
  have H214 := Lib.hid (H199.out.step (al u9 (.cells #[.int .i64 1, .slice a8 1 c8] 24)))
  clear H199
  have H215 := Lib.hid (H200.out.step (al u9 (.cells #[.int .i64 1, .slice a8 1 c8] 24)))
  clear H200
  have H216 := Lib.hid (H201.out.step (al u9 (.cells #[.int .i64 1, .slice a8 1 c8] 24)))
  clear H201
  have H217 := Lib.hid (H202.out.step (al u9 (.cells #[.int .i64 1, .slice a8 1 c8] 24)))
  clear H202
  have H218 := Lib.hid (H203.out.step (al u9 (.cells #[.int .i64 1, .slice a8 1 c8] 24)))
  clear H203
  have H219 := Lib.hid (H204.out.step (al u9 (.cells #[.int .i64 1, .slice a8 1 c8] 24)))
  clear H204
  have H220 := Lib.hid (H205.out.step (al u9 (.cells #[.int .i64 1, .slice a8 1 c8] 24)))
  clear H205
  have H221 := Lib.hid (H206.out.step (al u9 (.cells #[.int .i64 1, .slice a8 1 c8] 24)))
  clear H206
  have H222 := Lib.hid (H207.out.step (al u9 (.cells #[.int .i64 1, .slice a8 1 c8] 24)))
  clear H207
  have H223 := Lib.hid (H208.out.step (al u9 (.cells #[.int .i64 1, .slice a8 1 c8] 24)))
  clear H208
  have H224 := Lib.hid (H210.out.step (al u9 (.cells #[.int .i64 1, .slice a8 1 c8] 24)))
  clear H210
  have H225 := Lib.hid (keep2 (al u9 (.cells #[.int .i64 1, .slice a8 1 c8] 24)) H209.out)
  clear H209
  have H226 := Lib.hid (Cs.new u9 (u9.heap.size) #[.int .i64 1, .slice a8 1 c8] 24 (by simp))
  have xpR10 : (u9.alloc (.cells #[.int .i64 1, .slice a8 1 c8] 24)).cell? ⟨(u2.heap.size), 0, none⟩ = some (.int .i64 0) := H214.out.c 0 rfl
  have xpR11 : (u9.alloc (.cells #[.int .i64 1, .slice a8 1 c8] 24)).cell? ⟨(u2.heap.size), 1, none⟩ = some (.slice a1 16 c1) := H214.out.c 1 rfl
  have xpR12 : (u9.alloc (.cells #[.int .i64 1, .slice a8 1 c8] 24)).cell? ⟨(u2.heap.size), 2, none⟩ = some (.int .i64 1) := H214.out.c 2 rfl
  have xpR13 : (u9.alloc (.cells #[.int .i64 1, .slice a8 1 c8] 24)).cell? ⟨(u2.heap.size), 3, none⟩ = some (.slice v1 2 d1) := H214.out.c 3 rfl
  have xpR14 : (u9.alloc (.cells #[.int .i64 1, .slice a8 1 c8] 24)).cell? ⟨(u2.heap.size), 4, none⟩ = some (.int .i64 1) := H214.out.c 4 rfl
  have zpR1 : (u2.heap.size) < (u9.alloc (.cells #[.int .i64 1, .slice a8 1 c8] 24)).heap.size := H214.out.2.2
  have H227 := Lib.hid (H211.out.step (al (u9.alloc (.cells #[.int .i64 1, .slice a8 1 c8] 24)) (.cells #[.int .i64 0, .int .i64 3] 3)))
  clear H211
  have H228 := Lib.hid (H212.out.step (al (u9.alloc (.cells #[.int .i64 1, .slice a8 1 c8] 24)) (.cells #[.int .i64 0, .int .i64 3] 3)))
  clear H212
  have H229 := Lib.hid (H213.out.step (al (u9.alloc (.cells #[.int .i64 1, .slice a8 1 c8] 24)) (.cells #[.int .i64 0, .int .i64 3] 3)))
  clear H213
  have H230 := Lib.hid (H214.out.step (al (u9.alloc (.cells #[.int .i64 1, .slice a8 1 c8] 24)) (.cells #[.int .i64 0, .int .i64 3] 3)))
  clear H214
  have H231 := Lib.hid (H215.out.step (al (u9.alloc (.cells #[.int .i64 1, .slice a8 1 c8] 24)) (.cells #[.int .i64 0, .int .i64 3] 3)))
  clear H215
  have H232 := Lib.hid (H216.out.step (al (u9.alloc (.cells #[.int .i64 1, .slice a8 1 c8] 24)) (.cells #[.int .i64 0, .int .i64 3] 3)))
  clear H216
  have H233 := Lib.hid (H217.out.step (al (u9.alloc (.cells #[.int .i64 1, .slice a8 1 c8] 24)) (.cells #[.int .i64 0, .int .i64 3] 3)))
  clear H217
  have H234 := Lib.hid (H218.out.step (al (u9.alloc (.cells #[.int .i64 1, .slice a8 1 c8] 24)) (.cells #[.int .i64 0, .int .i64 3] 3)))
  clear H218
  have H235 := Lib.hid (H219.out.step (al (u9.alloc (.cells #[.int .i64 1, .slice a8 1 c8] 24)) (.cells #[.int .i64 0, .int .i64 3] 3)))
  clear H219
  have H236 := Lib.hid (H220.out.step (al (u9.alloc (.cells #[.int .i64 1, .slice a8 1 c8] 24)) (.cells #[.int .i64 0, .int .i64 3] 3)))
  clear H220
  have H237 := Lib.hid (H221.out.step (al (u9.alloc (.cells #[.int .i64 1, .slice a8 1 c8] 24)) (.cells #[.int .i64 0, .int .i64 3] 3)))
  clear H221
  have H238 := Lib.hid (H222.out.step (al (u9.alloc (.cells #[.int .i64 1, .slice a8 1 c8] 24)) (.cells #[.int .i64 0, .int .i64 3] 3)))
  clear H222
  have H239 := Lib.hid (H223.out.step (al (u9.alloc (.cells #[.int .i64 1, .slice a8 1 c8] 24)) (.cells #[.int .i64 0, .int .i64 3] 3)))
  clear H223
  have H240 := Lib.hid (H224.out.step (al (u9.alloc (.cells #[.int .i64 1, .slice a8 1 c8] 24)) (.cells #[.int .i64 0, .int .i64 3] 3)))
  clear H224
  have H241 := Lib.hid (H226.out.step (al (u9.alloc (.cells #[.int .i64 1, .slice a8 1 c8] 24)) (.cells #[.int .i64 0, .int .i64 3] 3)))
  clear H226
  have H242 := Lib.hid (keep2 (al (u9.alloc (.cells #[.int .i64 1, .slice a8 1 c8] 24)) (.cells #[.int .i64 0, .int .i64 3] 3)) H225.out)
  clear H225
  have H243 := Lib.hid (Cs.new (u9.alloc (.cells #[.int .i64 1, .slice a8 1 c8] 24)) (u9.heap.size + 1) #[.int .i64 0, .int .i64 3] 3 (by simp))
  have xR10 : ((u9.alloc (.cells #[.int .i64 1, .slice a8 1 c8] 24)).alloc (.cells #[.int .i64 0, .int .i64 3] 3)).cell? ⟨(u2.heap.size), 0, none⟩ = some (.int .i64 0) := H230.out.c 0 rfl
  have xR11 : ((u9.alloc (.cells #[.int .i64 1, .slice a8 1 c8] 24)).alloc (.cells #[.int .i64 0, .int .i64 3] 3)).cell? ⟨(u2.heap.size), 1, none⟩ = some (.slice a1 16 c1) := H230.out.c 1 rfl
  have xR12 : ((u9.alloc (.cells #[.int .i64 1, .slice a8 1 c8] 24)).alloc (.cells #[.int .i64 0, .int .i64 3] 3)).cell? ⟨(u2.heap.size), 2, none⟩ = some (.int .i64 1) := H230.out.c 2 rfl
  have xR13 : ((u9.alloc (.cells #[.int .i64 1, .slice a8 1 c8] 24)).alloc (.cells #[.int .i64 0, .int .i64 3] 3)).cell? ⟨(u2.heap.size), 3, none⟩ = some (.slice v1 2 d1) := H230.out.c 3 rfl
  have xR14 : ((u9.alloc (.cells #[.int .i64 1, .slice a8 1 c8] 24)).alloc (.cells #[.int .i64 0, .int .i64 3] 3)).cell? ⟨(u2.heap.size), 4, none⟩ = some (.int .i64 1) := H230.out.c 4 rfl
  have zR1 : (u2.heap.size) < ((u9.alloc (.cells #[.int .i64 1, .slice a8 1 c8] 24)).alloc (.cells #[.int .i64 0, .int .i64 3] 3)).heap.size := H230.out.2.2
  go_wp2_with fail
  refine (ints_b _ _ [0, 3] _ H229.out (ints_two H243.out)).mono ?_
  rintro e u10 ⟨rfl, b10⟩
  clear xpR10 xpR11 xpR12 xpR13 xpR14 zpR1 xR10 xR11 xR12 xR13 xR14 zR1
  have H244 := Lib.hid (H227.out.step b10)
  clear H227
  have H245 := Lib.hid (H228.out.step b10)
  clear H228
  have H246 := Lib.hid (H229.out.step b10)
  clear H229
  have H247 := Lib.hid (H230.out.step b10)
  clear H230
  have H248 := Lib.hid (H231.out.step b10)
  clear H231
  have H249 := Lib.hid (H232.out.step b10)
  clear H232
  have H250 := Lib.hid (H233.out.step b10)
  clear H233
  have H251 := Lib.hid (H234.out.step b10)
  clear H234
  have H252 := Lib.hid (H235.out.step b10)
  clear H235
  have H253 := Lib.hid (H236.out.step b10)
  clear H236
  have H254 := Lib.hid (H237.out.step b10)
  clear H237
  have H255 := Lib.hid (H238.out.step b10)
  clear H238
  have H256 := Lib.hid (H239.out.step b10)
  clear H239
  have H257 := Lib.hid (H240.out.step b10)
  clear H240
  have H258 := Lib.hid (H241.out.step b10)
  clear H241
  have H259 := Lib.hid (H243.out.step b10)
  clear H243
  have H260 := Lib.hid (keep2 b10 H242.out)
  clear H242
  clear b10
  have xR10 : u10.cell? ⟨(u2.heap.size), 0, none⟩ = some (.int .i64 0) := H247.out.c 0 rfl
  have xR11 : u10.cell? ⟨(u2.heap.size), 1, none⟩ = some (.slice a1 16 c1) := H247.out.c 1 rfl
  have xR12 : u10.cell? ⟨(u2.heap.size), 2, none⟩ = some (.int .i64 1) := H247.out.c 2 rfl
  have xR13 : u10.cell? ⟨(u2.heap.size), 3, none⟩ = some (.slice v1 2 d1) := H247.out.c 3 rfl
  have xR14 : u10.cell? ⟨(u2.heap.size), 4, none⟩ = some (.int .i64 1) := H247.out.c 4 rfl
  have zR1 : (u2.heap.size) < u10.heap.size := H247.out.2.2
  have xR20 : u10.cell? ⟨(u3.heap.size), 0, none⟩ = some (.int .i64 0) := H250.out.c 0 rfl
  have xR21 : u10.cell? ⟨(u3.heap.size), 1, none⟩ = some (.slice a2 16 c2) := H250.out.c 1 rfl
  have xR22 : u10.cell? ⟨(u3.heap.size), 2, none⟩ = some (.int .i64 1) := H250.out.c 2 rfl
  have xR23 : u10.cell? ⟨(u3.heap.size), 3, none⟩ = some (.slice v2 2 d2) := H250.out.c 3 rfl
  have xR24 : u10.cell? ⟨(u3.heap.size), 4, none⟩ = some (.int .i64 1) := H250.out.c 4 rfl
  have zR2 : (u3.heap.size) < u10.heap.size := H250.out.2.2
  go_wp2_with fail
  refine (samer16 0 1 1 Ra1 [0, 3] (by decide) _ _ _ _ _ _ _ _ _ H245.out H246.out H248.out H249.out).mono ?_
  rintro e u11 ⟨rfl, b11⟩
  clear xR10 xR11 xR12 xR13 xR14 zR1 xR20 xR21 xR22 xR23 xR24 zR2
  have H261 := Lib.hid (H244.out.step b11)
  clear H244
  have H262 := Lib.hid (H245.out.step b11)
  clear H245
  have H263 := Lib.hid (H246.out.step b11)
  clear H246
  have H264 := Lib.hid (H247.out.step b11)
  clear H247
  have H265 := Lib.hid (H248.out.step b11)
  clear H248
  have H266 := Lib.hid (H249.out.step b11)
  clear H249
  have H267 := Lib.hid (H250.out.step b11)
  clear H250
  have H268 := Lib.hid (H251.out.step b11)
  clear H251
  have H269 := Lib.hid (H252.out.step b11)
  clear H252
  have H270 := Lib.hid (H253.out.step b11)
  clear H253
  have H271 := Lib.hid (H254.out.step b11)
  clear H254
  have H272 := Lib.hid (H255.out.step b11)
  clear H255
  have H273 := Lib.hid (H256.out.step b11)
  clear H256
  have H274 := Lib.hid (H257.out.step b11)
  clear H257
  have H275 := Lib.hid (H258.out.step b11)
  clear H258
  have H276 := Lib.hid (H259.out.step b11)
  clear H259
  have H277 := Lib.hid (keep2 b11 H260.out)
  clear H260
  clear b11
  clear H276
  clear H264
  clear H262
  clear H263
  clear H267
  clear H265
  clear H266
  have xpR30 : u11.cell? ⟨(u4.heap.size), 0, none⟩ = some (.int .i64 5) := H270.out.c 0 rfl
  have xpR31 : u11.cell? ⟨(u4.heap.size), 1, none⟩ = some (.slice a3 16 c3) := H270.out.c 1 rfl
  have xpR32 : u11.cell? ⟨(u4.heap.size), 2, none⟩ = some (.int .i64 2) := H270.out.c 2 rfl
  have xpR33 : u11.cell? ⟨(u4.heap.size), 3, none⟩ = some (.slice v3 2 d3) := H270.out.c 3 rfl
  have xpR34 : u11.cell? ⟨(u4.heap.size), 4, none⟩ = some (.int .i64 2) := H270.out.c 4 rfl
  have zpR3 : (u4.heap.size) < u11.heap.size := H270.out.2.2
  have H278 := Lib.hid (H261.out.step (al u11 (.cells #[.int .i64 1, .int .i64 3] 3)))
  clear H261
  have H279 := Lib.hid (H268.out.step (al u11 (.cells #[.int .i64 1, .int .i64 3] 3)))
  clear H268
  have H280 := Lib.hid (H269.out.step (al u11 (.cells #[.int .i64 1, .int .i64 3] 3)))
  clear H269
  have H281 := Lib.hid (H270.out.step (al u11 (.cells #[.int .i64 1, .int .i64 3] 3)))
  clear H270
  have H282 := Lib.hid (H271.out.step (al u11 (.cells #[.int .i64 1, .int .i64 3] 3)))
  clear H271
  have H283 := Lib.hid (H272.out.step (al u11 (.cells #[.int .i64 1, .int .i64 3] 3)))
  clear H272
  have H284 := Lib.hid (H273.out.step (al u11 (.cells #[.int .i64 1, .int .i64 3] 3)))
  clear H273
  have H285 := Lib.hid (H274.out.step (al u11 (.cells #[.int .i64 1, .int .i64 3] 3)))
  clear H274
  have H286 := Lib.hid (H275.out.step (al u11 (.cells #[.int .i64 1, .int .i64 3] 3)))
  clear H275
  have H287 := Lib.hid (keep2 (al u11 (.cells #[.int .i64 1, .int .i64 3] 3)) H277.out)
  clear H277
  have H288 := Lib.hid (Cs.new u11 (u11.heap.size) #[.int .i64 1, .int .i64 3] 3 (by simp))
  have xR30 : (u11.alloc (.cells #[.int .i64 1, .int .i64 3] 3)).cell? ⟨(u4.heap.size), 0, none⟩ = some (.int .i64 5) := H281.out.c 0 rfl
  have xR31 : (u11.alloc (.cells #[.int .i64 1, .int .i64 3] 3)).cell? ⟨(u4.heap.size), 1, none⟩ = some (.slice a3 16 c3) := H281.out.c 1 rfl
  have xR32 : (u11.alloc (.cells #[.int .i64 1, .int .i64 3] 3)).cell? ⟨(u4.heap.size), 2, none⟩ = some (.int .i64 2) := H281.out.c 2 rfl
  have xR33 : (u11.alloc (.cells #[.int .i64 1, .int .i64 3] 3)).cell? ⟨(u4.heap.size), 3, none⟩ = some (.slice v3 2 d3) := H281.out.c 3 rfl
  have xR34 : (u11.alloc (.cells #[.int .i64 1, .int .i64 3] 3)).cell? ⟨(u4.heap.size), 4, none⟩ = some (.int .i64 2) := H281.out.c 4 rfl
  have zR3 : (u4.heap.size) < (u11.alloc (.cells #[.int .i64 1, .int .i64 3] 3)).heap.size := H281.out.2.2
  go_wp2_with fail
  refine (ints_b _ _ [1, 3] _ H280.out (ints_two H288.out)).mono ?_
  rintro e u12 ⟨rfl, b12⟩
  clear xpR30 xpR31 xpR32 xpR33 xpR34 zpR3 xR30 xR31 xR32 xR33 xR34 zR3
  have H289 := Lib.hid (H278.out.step b12)
  clear H278
  have H290 := Lib.hid (H279.out.step b12)
  clear H279
  have H291 := Lib.hid (H280.out.step b12)
  clear H280
  have H292 := Lib.hid (H281.out.step b12)
  clear H281
  have H293 := Lib.hid (H282.out.step b12)
  clear H282
  have H294 := Lib.hid (H283.out.step b12)
  clear H283
  have H295 := Lib.hid (H284.out.step b12)
  clear H284
  have H296 := Lib.hid (H285.out.step b12)
  clear H285
  have H297 := Lib.hid (H286.out.step b12)
  clear H286
  have H298 := Lib.hid (H288.out.step b12)
  clear H288
  have H299 := Lib.hid (keep2 b12 H287.out)
  clear H287
  clear b12
  have xR30 : u12.cell? ⟨(u4.heap.size), 0, none⟩ = some (.int .i64 5) := H292.out.c 0 rfl
  have xR31 : u12.cell? ⟨(u4.heap.size), 1, none⟩ = some (.slice a3 16 c3) := H292.out.c 1 rfl
  have xR32 : u12.cell? ⟨(u4.heap.size), 2, none⟩ = some (.int .i64 2) := H292.out.c 2 rfl
  have xR33 : u12.cell? ⟨(u4.heap.size), 3, none⟩ = some (.slice v3 2 d3) := H292.out.c 3 rfl
  have xR34 : u12.cell? ⟨(u4.heap.size), 4, none⟩ = some (.int .i64 2) := H292.out.c 4 rfl
  have zR3 : (u4.heap.size) < u12.heap.size := H292.out.2.2
  have xR40 : u12.cell? ⟨(u5.heap.size), 0, none⟩ = some (.int .i64 5) := H295.out.c 0 rfl
  have xR41 : u12.cell? ⟨(u5.heap.size), 1, none⟩ = some (.slice a4 16 c4) := H295.out.c 1 rfl
  have xR42 : u12.cell? ⟨(u5.heap.size), 2, none⟩ = some (.int .i64 2) := H295.out.c 2 rfl
  have xR43 : u12.cell? ⟨(u5.heap.size), 3, none⟩ = some (.slice v4 2 d4) := H295.out.c 3 rfl
  have xR44 : u12.cell? ⟨(u5.heap.size), 4, none⟩ = some (.int .i64 2) := H295.out.c 4 rfl
  have zR4 : (u5.heap.size) < u12.heap.size := H295.out.2.2
  go_wp2_with fail
  refine (samer16 5 2 2 Ra3 [1, 3] (by decide) _ _ _ _ _ _ _ _ _ H290.out H291.out H293.out H294.out).mono ?_
  rintro e u13 ⟨rfl, b13⟩
  clear xR30 xR31 xR32 xR33 xR34 zR3 xR40 xR41 xR42 xR43 xR44 zR4
  have H300 := Lib.hid (H289.out.step b13)
  clear H289
  have H301 := Lib.hid (H290.out.step b13)
  clear H290
  have H302 := Lib.hid (H291.out.step b13)
  clear H291
  have H303 := Lib.hid (H292.out.step b13)
  clear H292
  have H304 := Lib.hid (H293.out.step b13)
  clear H293
  have H305 := Lib.hid (H294.out.step b13)
  clear H294
  have H306 := Lib.hid (H295.out.step b13)
  clear H295
  have H307 := Lib.hid (H296.out.step b13)
  clear H296
  have H308 := Lib.hid (H297.out.step b13)
  clear H297
  have H309 := Lib.hid (H298.out.step b13)
  clear H298
  have H310 := Lib.hid (keep2 b13 H299.out)
  clear H299
  clear b13
  clear H309
  clear H303
  clear H301
  clear H302
  clear H306
  clear H304
  clear H305
  have xpS0 : u13.cell? ⟨(u9.heap.size), 0, none⟩ = some (.int .i64 1) := H308.out.c 0 rfl
  have xpS1 : u13.cell? ⟨(u9.heap.size), 1, none⟩ = some (.slice a8 1 c8) := H308.out.c 1 rfl
  have zpS : (u9.heap.size) < u13.heap.size := H308.out.2.2
  have xpO0 : u13.cell? ⟨(u1.heap.size + 1), 0, none⟩ = some (.int .i64 0) := H300.out.c 0 rfl
  have xpO1 : u13.cell? ⟨(u1.heap.size + 1), 1, none⟩ = some (.int .i64 1) := H300.out.c 1 rfl
  have xpO2 : u13.cell? ⟨(u1.heap.size + 1), 2, none⟩ = some (.int .i64 1) := H300.out.c 2 rfl
  have xpO3 : u13.cell? ⟨(u1.heap.size + 1), 3, none⟩ = some (.int .i64 3) := H300.out.c 3 rfl
  have zpO : (u1.heap.size + 1) < u13.heap.size := H300.out.2.2
  have H311 := Lib.hid (H300.out.step (al u13 (.cells #[.int .i64 0, .int .i64 1, .int .i64 1, .int .i64 3] 32)))
  clear H300
  have H312 := Lib.hid (H307.out.step (al u13 (.cells #[.int .i64 0, .int .i64 1, .int .i64 1, .int .i64 3] 32)))
  clear H307
  have H313 := Lib.hid (H308.out.step (al u13 (.cells #[.int .i64 0, .int .i64 1, .int .i64 1, .int .i64 3] 32)))
  clear H308
  have H314 := Lib.hid (keep2 (al u13 (.cells #[.int .i64 0, .int .i64 1, .int .i64 1, .int .i64 3] 32)) H310.out)
  clear H310
  have H315 := Lib.hid (Cs.new u13 (u13.heap.size) #[.int .i64 0, .int .i64 1, .int .i64 1, .int .i64 3] 32 (by simp))
  have xS0 : (u13.alloc (.cells #[.int .i64 0, .int .i64 1, .int .i64 1, .int .i64 3] 32)).cell? ⟨(u9.heap.size), 0, none⟩ = some (.int .i64 1) := H313.out.c 0 rfl
  have xS1 : (u13.alloc (.cells #[.int .i64 0, .int .i64 1, .int .i64 1, .int .i64 3] 32)).cell? ⟨(u9.heap.size), 1, none⟩ = some (.slice a8 1 c8) := H313.out.c 1 rfl
  have zS : (u9.heap.size) < (u13.alloc (.cells #[.int .i64 0, .int .i64 1, .int .i64 1, .int .i64 3] 32)).heap.size := H313.out.2.2
  have xO0 : (u13.alloc (.cells #[.int .i64 0, .int .i64 1, .int .i64 1, .int .i64 3] 32)).cell? ⟨(u1.heap.size + 1), 0, none⟩ = some (.int .i64 0) := H311.out.c 0 rfl
  have xO1 : (u13.alloc (.cells #[.int .i64 0, .int .i64 1, .int .i64 1, .int .i64 3] 32)).cell? ⟨(u1.heap.size + 1), 1, none⟩ = some (.int .i64 1) := H311.out.c 1 rfl
  have xO2 : (u13.alloc (.cells #[.int .i64 0, .int .i64 1, .int .i64 1, .int .i64 3] 32)).cell? ⟨(u1.heap.size + 1), 2, none⟩ = some (.int .i64 1) := H311.out.c 2 rfl
  have xO3 : (u13.alloc (.cells #[.int .i64 0, .int .i64 1, .int .i64 1, .int .i64 3] 32)).cell? ⟨(u1.heap.size + 1), 3, none⟩ = some (.int .i64 3) := H311.out.c 3 rfl
  have zO : (u1.heap.size + 1) < (u13.alloc (.cells #[.int .i64 0, .int .i64 1, .int .i64 1, .int .i64 3] 32)).heap.size := H311.out.2.2
  go_wp2_with fail
  refine (sames1 _ _ _ _ _ H312.out (ods_one H315.out)).mono ?_
  rintro e u14 ⟨rfl, b14⟩
  clear xpS0 xpS1 zpS xpO0 xpO1 xpO2 xpO3 zpO xS0 xS1 zS xO0 xO1 xO2 xO3 zO
  have H316 := Lib.hid (H311.out.step b14)
  clear H311
  have H317 := Lib.hid (H312.out.step b14)
  clear H312
  have H318 := Lib.hid (H313.out.step b14)
  clear H313
  have H319 := Lib.hid (H315.out.step b14)
  clear H315
  have H320 := Lib.hid (keep2 b14 H314.out)
  clear H314
  clear b14
  clear H319
  have xS0 : u14.cell? ⟨(u9.heap.size), 0, none⟩ = some (.int .i64 1) := H318.out.c 0 rfl
  have xS1 : u14.cell? ⟨(u9.heap.size), 1, none⟩ = some (.slice a8 1 c8) := H318.out.c 1 rfl
  have zS : (u9.heap.size) < u14.heap.size := H318.out.2.2
  go_wp2_with fail
  refine (confirm_lit _ _ _ H317.out).mono ?_
  rintro e u15 ⟨c9, a9, rfl, hO, b15⟩
  clear xS0 xS1 zS
  have H321 := Lib.hid (H316.out.step b15)
  clear H316
  have H322 := Lib.hid (H317.out.step b15)
  clear H317
  have H323 := Lib.hid (H318.out.step b15)
  clear H318
  have H324 := Lib.hid (keep2 b15 H320.out)
  clear H320
  clear b15
  have H325 := Lib.hid (hO)
  clear hO
  go_wp2_with fail
  refine (sames0 _ _ _ _ _ H325.out (ods_nil _)).mono ?_
  rintro e u16 ⟨rfl, b16⟩
  have H326 := Lib.hid (H321.out.step b16)
  clear H321
  have H327 := Lib.hid (H322.out.step b16)
  clear H322
  have H328 := Lib.hid (H323.out.step b16)
  clear H323
  have H329 := Lib.hid (H325.out.step b16)
  clear H325
  have H330 := Lib.hid (keep2 b16 H324.out)
  clear H324
  clear b16
  go_wp2_with fail
  refine (fresh1_any _).mono ?_
  rintro e u17 ⟨sl, rfl, -, b17⟩
  have H331 := Lib.hid (H326.out.step b17)
  clear H326
  have H332 := Lib.hid (H327.out.step b17)
  clear H327
  have H333 := Lib.hid (H328.out.step b17)
  clear H328
  have H334 := Lib.hid (H329.out.step b17)
  clear H329
  have H335 := Lib.hid (keep2 b17 H330.out)
  clear H330
  clear b17
  have hfld := fun W => fld1 sl W
  go_wp2_with fail
  go_ret
  exact ⟨rfl, H335.out⟩
end Go.Proofs.Ytkamkkjijjkfdaa
