/- Delivery: the law 'DeliveryMatchesReference'. -/
import Derived.Test.YtkamkkjijjkfdaaHa
import Derived.Test.YtkamkkjijjkfdaaHc
import Derived.Test.YtkamkkjijjkfdaaDw
import Derived.Test.YtkamkkjijjkfdaaDo
namespace Go.Proofs.Ytkamkkjijjkfdaa
open Go.RowKit Go.WideShapes Go.ChangeShapes Go.Joins Go.Deep

theorem rreceive_is {t : Int} {L : List Bool} {f : Int} {l : List Int} {dn a b c d T : Int} {A : List Bool} {F : Int} {V : List Int} {D : Int} {ok : Bool} {er : Int} (h : RW t L f l dn a b c d T A F V D ok er) (sa va : Option Addr) (sc vc : Nat) (w : World) (hs : BosAt w (.slice sa L.length sc) L) (hc : L.length ≤ sc) (hv : IntsAt w (.slice va l.length vc) l) (h9 : l.length ≤ 100000) :
    Calls Try.prog 14 #[.agg #[.int .i64 t, .slice sa L.length sc, .int .i64 f, .slice va l.length vc, .int .i64 dn], .agg #[.int .i64 a, .int .i64 b, .int .i64 c, .int .i64 d]] w (RrP w T A F l.length V D ok er) := by
  cases h with
  | bad h =>
    by_cases h1 : WF t L
    · cases h2 : rvB f l dn with
      | false => exact rreceive_norv t f dn a b c d sa va sc vc L l w hs hc hv h1 h2
      | true =>
        cases h3 : orB a b c d with
        | false => exact rreceive_noord t f dn a b c d sa va sc vc L l w hs hc hv h1 h2 h3
        | true => exact rreceive_novar t f dn a b c d sa va sc vc L l w hs hc hv h1 h2 h3 (fun h4 => h ⟨h3, h2, h4, h1⟩)
    · exact rreceive_nowin t f dn a b c d sa va sc vc L l w hs hc hv h1
  | old h1 h2 h3 h4 h5 => exact rreceive_old t f dn a b c d sa va sc vc L l w hs hc hv h4 h2 h1 h3 h5
  | known h1 h2 h3 h4 h5 h6 h7 => exact rreceive_known t f dn a b c d sa va sc vc L l w hs hc hv h4 h2 h1 h3 h5 h6 h7
  | low h1 h2 h3 h4 h5 h6 =>
    by_cases q : t < a
    · exact rreceive_low1 t f dn a b c d sa va sc vc L l w hs hc hv h4 h2 h1 h3 q h6
    · rcases h5 with h5 | ⟨h5, h7⟩
      · omega
      · exact rreceive_low2 t f dn a b c d sa va sc vc L l w hs hc hv h4 h2 h1 h3 (by omega) h5 h7 h6
  | did h1 h2 h3 h4 h5 h6 => exact rreceive_did t f dn a b c d sa va sc vc L l w hs hc hv h9 h4 h2 h1 h3 h5 h6 rfl rfl
/-- Both ways of sending agree. -/
theorem send_two (nx b c d : Int) (L : List Od) : ∃ (NX : Int) (LL : List Od) (er : Int),
    (∀ (sa : Option Addr) (sc : Nat) (w : World), OdsAt w (.slice sa L.length sc) L → L.length ≤ 100000 → Calls Try.prog 11 #[.agg #[.int .i64 nx, .slice sa L.length sc], .int .i64 b, .int .i64 c, .int .i64 d] w (SeP w NX LL er)) ∧
    (∀ (sa : Option Addr) (sc : Nat) (w : World), OdsAt w (.slice sa L.length sc) L → L.length ≤ 100000 → Calls Try.prog 12 #[.agg #[.int .i64 nx, .slice sa L.length sc], .int .i64 b, .int .i64 c, .int .i64 d] w (SeP w NX LL er)) := by
  by_cases hr : SnP nx L
  · cases ho : orB 0 b c d with
    | false => exact ⟨_, _, _, fun sa sc w h h9 => send_bad nx b c d sa sc L hr ho w h h9, fun sa sc w h h9 => rsend_bad nx b c d sa sc L hr ho w h h9⟩
    | true =>
      by_cases hn : 1000000 < nx
      · exact ⟨_, _, _, fun sa sc w h h9 => send_full nx b c d sa sc L hr ho hn w h h9, fun sa sc w h h9 => rsend_full nx b c d sa sc L hr ho hn w h h9⟩
      · by_cases hp : 0 < L.length ∧ (L.getD 0 zO).a ≤ nx - 16
        · exact ⟨_, _, _, fun sa sc w h h9 => send_wait nx b c d sa sc L hr ho hn hp.1 hp.2 w h h9, fun sa sc w h h9 => rsend_wait nx b c d sa sc L hr ho hn hp.1 hp.2 w h h9⟩
        · have ha : 0 < L.length → nx - 16 < (L.getD 0 zO).a := fun q => by
            by_cases r : (L.getD 0 zO).a ≤ nx - 16
            · exact absurd ⟨q, r⟩ hp
            · omega
          exact ⟨_, _, _, fun sa sc w h h9 => send_ok nx b c d sa sc L hr ho hn ha w h h9, fun sa sc w h h9 => rsend_ok nx b c d sa sc L hr ho hn ha rfl w h h9⟩
  · exact ⟨_, _, _, fun sa sc w h h9 => send_no nx b c d sa sc L hr w h h9, fun sa sc w h h9 => rsend_no nx b c d sa sc L hr w h h9⟩
def Qcs (nx : Int) (P : List Od) (v : Value) (w : World) : Prop := ∃ (uc : Nat) (ua : Option Addr), v = .agg #[.int .i64 nx, .slice ua P.length uc] ∧ OdsAt w (.slice ua P.length uc) P
theorem Qcs.step {nx : Int} {P : List Od} {v : Value} {w w' : World} (h : Qcs nx P v w) (hb : Below w.heap.size w w') : Qcs nx P v w' := by
  obtain ⟨c, a, e, h⟩ := h
  exact ⟨c, a, e, h.step hb⟩
def Qfr (T : Int) (A : List Bool) (F : Int) (n : Nat) (V : List Int) (D : Int) (v : Value) (w : World) : Prop := ∃ (cc vc : Nat) (aa va : Option Addr), v = .agg #[.int .i64 T, .slice aa A.length cc, .int .i64 F, .slice va n vc, .int .i64 D] ∧ BosAt w (.slice aa A.length cc) A ∧ IntsAt w (.slice va n vc) V
theorem Qfr.step {T : Int} {A : List Bool} {F : Int} {n : Nat} {V : List Int} {D : Int} {v : Value} {w w' : World} (h : Qfr T A F n V D v w) (hb : Below w.heap.size w w') : Qfr T A F n V D v w' := by
  obtain ⟨c, d, a, b, e, h1, h2⟩ := h
  exact ⟨c, d, a, b, e, h1.step hb, h2.step hb⟩
/-- Both ways of making a receiver agree. -/
theorem fresh_two (l : List Int) (h9 : l.length ≤ 100000) : ∃ (T : Int) (A : List Bool) (F : Int) (n : Nat) (V : List Int) (D : Int),
    (∀ (v : Value) (w : World), IntsAt w v l → Calls Try.prog 19 #[v] w fun e w' => ∃ r, e = .returned r ∧ Qfr T A F n V D r w' ∧ Below w.heap.size w w') ∧
    (∀ (v : Value) (w : World), IntsAt w v l → Calls Try.prog 20 #[v] w fun e w' => ∃ r, e = .returned r ∧ Qfr T A F n V D r w' ∧ Below w.heap.size w w') := by
  cases hv : vaB l with
  | true =>
    refine ⟨-1, List.replicate 16 false, 0, l.length, l, 0, fun v w h => ?_, fun v w h => ?_⟩
    · refine (newrc_ok v l hv w h h9).mono ?_
      rintro e w' ⟨cc, vc, aa, va, rfl, -, h1, h2, h3⟩
      exact ⟨_, rfl, ⟨cc, vc, aa, va, rfl, h1, h2⟩, h3⟩
    · refine (rnewrc_ok v l hv w h h9).mono ?_
      rintro e w' ⟨cc, vc, aa, va, rfl, -, h1, h2, h3⟩
      exact ⟨_, rfl, ⟨cc, vc, aa, va, rfl, h1, h2⟩, h3⟩
  | false =>
    refine ⟨0, [], 0, 0, [], 0, fun v w h => ?_, fun v w h => ?_⟩
    · refine (newrc_bad19 v l hv w h).mono ?_
      rintro e w' ⟨rfl, h3⟩
      exact ⟨_, rfl, ⟨0, 0, none, none, rfl, bos_nil _, ints_nil _⟩, h3⟩
    · refine (newrc_bad20 v l hv w h).mono ?_
      rintro e w' ⟨rfl, h3⟩
      exact ⟨_, rfl, ⟨0, 0, none, none, rfl, bos_nil _, ints_nil _⟩, h3⟩
set_option maxRecDepth 100000 in
set_option maxHeartbeats 8000000 in
theorem match_big (nx t f dn a b c d yf yv yl : Int) (xa sa va na : Option Addr) (xc sc vc nc : Nat) (P : List Od) (L : List Bool) (l lv : List Int) (w : World) (hp : OdsAt w (.slice xa P.length xc) P) (hs : BosAt w (.slice sa L.length sc) L) (hc : L.length ≤ sc) (hv : IntsAt w (.slice va l.length vc) l) (hn : IntsAt w (.slice na lv.length nc) lv) (hsm : (decide (P.length ≤ 30) && (decide (l.length ≤ 30) && decide (L.length ≤ 30))) = false) :
    Calls Try.prog 3 #[.agg #[.int .i64 nx, .slice xa P.length xc], .agg #[.int .i64 t, .slice sa L.length sc, .int .i64 f, .slice va l.length vc, .int .i64 dn], .agg #[.int .i64 a, .int .i64 b, .int .i64 c, .int .i64 d], .slice na lv.length nc, .int .i64 yf, .int .i64 yv, .int .i64 yl] w fun e w' => e = .returned (.bool true) ∧ Below w.heap.size w w' := by
  have HP := Lib.hid hp
  have HS := Lib.hid hs
  have HV := Lib.hid hv
  have HN := Lib.hid hn
  have HCP := Lib.hid hc
  have HSM := Lib.hid hsm
  
  clear hp hs hv hn hc hsm
  have H0 := Lib.hid (Below.refl w.heap.size w)
  have H1 := Lib.hid (keep2 (al w (.cells #[.int .i64 nx, .slice xa P.length xc] 24)) H0.out)
  clear H0
  have H2 := Lib.hid (Cs.new w (w.heap.size) #[.int .i64 nx, .slice xa P.length xc] 24 (by simp))
  have H3 := Lib.hid (H2.out.step (al (w.alloc (.cells #[.int .i64 nx, .slice xa P.length xc] 24)) (.cells #[.int .i64 t, .slice sa L.length sc, .int .i64 f, .slice va l.length vc, .int .i64 dn] 30)))
  clear H2
  have H4 := Lib.hid (keep2 (al (w.alloc (.cells #[.int .i64 nx, .slice xa P.length xc] 24)) (.cells #[.int .i64 t, .slice sa L.length sc, .int .i64 f, .slice va l.length vc, .int .i64 dn] 30)) H1.out)
  clear H1
  have H5 := Lib.hid (Cs.new (w.alloc (.cells #[.int .i64 nx, .slice xa P.length xc] 24)) (w.heap.size + 1) #[.int .i64 t, .slice sa L.length sc, .int .i64 f, .slice va l.length vc, .int .i64 dn] 30 (by simp))
  have H6 := Lib.hid (H3.out.step (al ((w.alloc (.cells #[.int .i64 nx, .slice xa P.length xc] 24)).alloc (.cells #[.int .i64 t, .slice sa L.length sc, .int .i64 f, .slice va l.length vc, .int .i64 dn] 30)) (.cells #[.int .i64 a, .int .i64 b, .int .i64 c, .int .i64 d] 32)))
  clear H3
  have H7 := Lib.hid (H5.out.step (al ((w.alloc (.cells #[.int .i64 nx, .slice xa P.length xc] 24)).alloc (.cells #[.int .i64 t, .slice sa L.length sc, .int .i64 f, .slice va l.length vc, .int .i64 dn] 30)) (.cells #[.int .i64 a, .int .i64 b, .int .i64 c, .int .i64 d] 32)))
  clear H5
  have H8 := Lib.hid (keep2 (al ((w.alloc (.cells #[.int .i64 nx, .slice xa P.length xc] 24)).alloc (.cells #[.int .i64 t, .slice sa L.length sc, .int .i64 f, .slice va l.length vc, .int .i64 dn] 30)) (.cells #[.int .i64 a, .int .i64 b, .int .i64 c, .int .i64 d] 32)) H4.out)
  clear H4
  have H9 := Lib.hid (Cs.new ((w.alloc (.cells #[.int .i64 nx, .slice xa P.length xc] 24)).alloc (.cells #[.int .i64 t, .slice sa L.length sc, .int .i64 f, .slice va l.length vc, .int .i64 dn] 30)) (w.heap.size + 1 + 1) #[.int .i64 a, .int .i64 b, .int .i64 c, .int .i64 d] 32 (by simp))
  go_enter Try.func3, Try.ntmps3
  go_wp2_with fail
  refine (head_any _).mono ?_
  rintro e u1 ⟨rfl, b1⟩
  have H10 := Lib.hid (H6.out.step b1)
  clear H6
  have H11 := Lib.hid (H7.out.step b1)
  clear H7
  have H12 := Lib.hid (H9.out.step b1)
  clear H9
  have H13 := Lib.hid (keep2 b1 H8.out)
  clear H8
  clear b1
  have xS0 : u1.cell? ⟨(w.heap.size), 0, none⟩ = some (.int .i64 nx) := H10.out.c 0 rfl
  have xS1 : u1.cell? ⟨(w.heap.size), 1, none⟩ = some (.slice xa P.length xc) := H10.out.c 1 rfl
  have zS : (w.heap.size) < u1.heap.size := H10.out.2.2
  have xR0 : u1.cell? ⟨(w.heap.size + 1), 0, none⟩ = some (.int .i64 t) := H11.out.c 0 rfl
  have xR1 : u1.cell? ⟨(w.heap.size + 1), 1, none⟩ = some (.slice sa L.length sc) := H11.out.c 1 rfl
  have xR2 : u1.cell? ⟨(w.heap.size + 1), 2, none⟩ = some (.int .i64 f) := H11.out.c 2 rfl
  have xR3 : u1.cell? ⟨(w.heap.size + 1), 3, none⟩ = some (.slice va l.length vc) := H11.out.c 3 rfl
  have xR4 : u1.cell? ⟨(w.heap.size + 1), 4, none⟩ = some (.int .i64 dn) := H11.out.c 4 rfl
  have zR : (w.heap.size + 1) < u1.heap.size := H11.out.2.2
  go_wp2_with fail
  refine (small_any nx t f dn xa sa va P.length L.length l.length xc sc vc false HSM.out _).mono ?_
  rintro e u2 ⟨rfl, b2⟩
  clear xS0 xS1 zS xR0 xR1 xR2 xR3 xR4 zR
  have H14 := Lib.hid (H10.out.step b2)
  clear H10
  have H15 := Lib.hid (H11.out.step b2)
  clear H11
  have H16 := Lib.hid (H12.out.step b2)
  clear H12
  have H17 := Lib.hid (keep2 b2 H13.out)
  clear H13
  clear b2
  go_wp2
  go_ret
  exact ⟨rfl, H17.out⟩
set_option maxRecDepth 100000 in
set_option maxHeartbeats 8000000 in
theorem match_long (nx t f dn a b c d yf yv yl : Int) (xa sa va na : Option Addr) (xc sc vc nc : Nat) (P : List Od) (L : List Bool) (l lv : List Int) (w : World) (hp : OdsAt w (.slice xa P.length xc) P) (hs : BosAt w (.slice sa L.length sc) L) (hc : L.length ≤ sc) (hv : IntsAt w (.slice va l.length vc) l) (hn : IntsAt w (.slice na lv.length nc) lv) (hsm : (decide (P.length ≤ 30) && (decide (l.length ≤ 30) && decide (L.length ≤ 30))) = true) (hlv : 30 < lv.length) :
    Calls Try.prog 3 #[.agg #[.int .i64 nx, .slice xa P.length xc], .agg #[.int .i64 t, .slice sa L.length sc, .int .i64 f, .slice va l.length vc, .int .i64 dn], .agg #[.int .i64 a, .int .i64 b, .int .i64 c, .int .i64 d], .slice na lv.length nc, .int .i64 yf, .int .i64 yv, .int .i64 yl] w fun e w' => e = .returned (.bool true) ∧ Below w.heap.size w w' := by
  have HP := Lib.hid hp
  have HS := Lib.hid hs
  have HV := Lib.hid hv
  have HN := Lib.hid hn
  have HCP := Lib.hid hc
  have HSM := Lib.hid hsm
  have g1 : decide ((lv.length : Int) > 30) = true := by simp; omega
  have g2 : decide (30 < (lv.length : Int)) = true := by simp; omega
  have g3 : decide (30 < lv.length) = true := by simp; omega
  clear hlv
  clear hp hs hv hn hc hsm
  have H0 := Lib.hid (Below.refl w.heap.size w)
  have H1 := Lib.hid (keep2 (al w (.cells #[.int .i64 nx, .slice xa P.length xc] 24)) H0.out)
  clear H0
  have H2 := Lib.hid (Cs.new w (w.heap.size) #[.int .i64 nx, .slice xa P.length xc] 24 (by simp))
  have H3 := Lib.hid (H2.out.step (al (w.alloc (.cells #[.int .i64 nx, .slice xa P.length xc] 24)) (.cells #[.int .i64 t, .slice sa L.length sc, .int .i64 f, .slice va l.length vc, .int .i64 dn] 30)))
  clear H2
  have H4 := Lib.hid (keep2 (al (w.alloc (.cells #[.int .i64 nx, .slice xa P.length xc] 24)) (.cells #[.int .i64 t, .slice sa L.length sc, .int .i64 f, .slice va l.length vc, .int .i64 dn] 30)) H1.out)
  clear H1
  have H5 := Lib.hid (Cs.new (w.alloc (.cells #[.int .i64 nx, .slice xa P.length xc] 24)) (w.heap.size + 1) #[.int .i64 t, .slice sa L.length sc, .int .i64 f, .slice va l.length vc, .int .i64 dn] 30 (by simp))
  have H6 := Lib.hid (H3.out.step (al ((w.alloc (.cells #[.int .i64 nx, .slice xa P.length xc] 24)).alloc (.cells #[.int .i64 t, .slice sa L.length sc, .int .i64 f, .slice va l.length vc, .int .i64 dn] 30)) (.cells #[.int .i64 a, .int .i64 b, .int .i64 c, .int .i64 d] 32)))
  clear H3
  have H7 := Lib.hid (H5.out.step (al ((w.alloc (.cells #[.int .i64 nx, .slice xa P.length xc] 24)).alloc (.cells #[.int .i64 t, .slice sa L.length sc, .int .i64 f, .slice va l.length vc, .int .i64 dn] 30)) (.cells #[.int .i64 a, .int .i64 b, .int .i64 c, .int .i64 d] 32)))
  clear H5
  have H8 := Lib.hid (keep2 (al ((w.alloc (.cells #[.int .i64 nx, .slice xa P.length xc] 24)).alloc (.cells #[.int .i64 t, .slice sa L.length sc, .int .i64 f, .slice va l.length vc, .int .i64 dn] 30)) (.cells #[.int .i64 a, .int .i64 b, .int .i64 c, .int .i64 d] 32)) H4.out)
  clear H4
  have H9 := Lib.hid (Cs.new ((w.alloc (.cells #[.int .i64 nx, .slice xa P.length xc] 24)).alloc (.cells #[.int .i64 t, .slice sa L.length sc, .int .i64 f, .slice va l.length vc, .int .i64 dn] 30)) (w.heap.size + 1 + 1) #[.int .i64 a, .int .i64 b, .int .i64 c, .int .i64 d] 32 (by simp))
  go_enter Try.func3, Try.ntmps3
  go_wp2_with fail
  refine (head_any _).mono ?_
  rintro e u1 ⟨rfl, b1⟩
  have H10 := Lib.hid (H6.out.step b1)
  clear H6
  have H11 := Lib.hid (H7.out.step b1)
  clear H7
  have H12 := Lib.hid (H9.out.step b1)
  clear H9
  have H13 := Lib.hid (keep2 b1 H8.out)
  clear H8
  clear b1
  have xS0 : u1.cell? ⟨(w.heap.size), 0, none⟩ = some (.int .i64 nx) := H10.out.c 0 rfl
  have xS1 : u1.cell? ⟨(w.heap.size), 1, none⟩ = some (.slice xa P.length xc) := H10.out.c 1 rfl
  have zS : (w.heap.size) < u1.heap.size := H10.out.2.2
  have xR0 : u1.cell? ⟨(w.heap.size + 1), 0, none⟩ = some (.int .i64 t) := H11.out.c 0 rfl
  have xR1 : u1.cell? ⟨(w.heap.size + 1), 1, none⟩ = some (.slice sa L.length sc) := H11.out.c 1 rfl
  have xR2 : u1.cell? ⟨(w.heap.size + 1), 2, none⟩ = some (.int .i64 f) := H11.out.c 2 rfl
  have xR3 : u1.cell? ⟨(w.heap.size + 1), 3, none⟩ = some (.slice va l.length vc) := H11.out.c 3 rfl
  have xR4 : u1.cell? ⟨(w.heap.size + 1), 4, none⟩ = some (.int .i64 dn) := H11.out.c 4 rfl
  have zR : (w.heap.size + 1) < u1.heap.size := H11.out.2.2
  go_wp2_with fail
  refine (small_any nx t f dn xa sa va P.length L.length l.length xc sc vc true HSM.out _).mono ?_
  rintro e u2 ⟨rfl, b2⟩
  clear xS0 xS1 zS xR0 xR1 xR2 xR3 xR4 zR
  have H14 := Lib.hid (H10.out.step b2)
  clear H10
  have H15 := Lib.hid (H11.out.step b2)
  clear H11
  have H16 := Lib.hid (H12.out.step b2)
  clear H12
  have H17 := Lib.hid (keep2 b2 H13.out)
  clear H13
  clear b2
  go_wp2
  go_ret
  exact ⟨rfl, H17.out⟩
set_option maxRecDepth 100000 in
set_option maxHeartbeats 8000000 in
theorem match_go (nx t f dn a b c d yf yv yl : Int) (xa sa va na : Option Addr) (xc sc vc nc : Nat) (P : List Od) (L : List Bool) (l lv : List Int) (w : World) (hp : OdsAt w (.slice xa P.length xc) P) (hs : BosAt w (.slice sa L.length sc) L) (hc : L.length ≤ sc) (hv : IntsAt w (.slice va l.length vc) l) (hn : IntsAt w (.slice na lv.length nc) lv) (hsm : (decide (P.length ≤ 30) && (decide (l.length ≤ 30) && decide (L.length ≤ 30))) = true) (hlv : ¬ 30 < lv.length) {NX : Int} {LL : List Od} {er : Int} (hs1 : ∀ (sa : Option Addr) (sc : Nat) (w : World), OdsAt w (.slice sa P.length sc) P → P.length ≤ 100000 → Calls Try.prog 11 #[.agg #[.int .i64 nx, .slice sa P.length sc], .int .i64 yf, .int .i64 yv, .int .i64 yl] w (SeP w NX LL er)) (hs2 : ∀ (sa : Option Addr) (sc : Nat) (w : World), OdsAt w (.slice sa P.length sc) P → P.length ≤ 100000 → Calls Try.prog 12 #[.agg #[.int .i64 nx, .slice sa P.length sc], .int .i64 yf, .int .i64 yv, .int .i64 yl] w (SeP w NX LL er)) {T F D e2 : Int} {A : List Bool} {V : List Int} {ok : Bool} (hrw : RW t L f l dn a b c d T A F V D ok e2) {r : Bool} (hr : r = true ↔ SnP nx P) {T9 F9 D9 : Int} {A9 : List Bool} {n9 : Nat} {V9 : List Int} (hf1 : ∀ (v : Value) (w : World), IntsAt w v lv → Calls Try.prog 19 #[v] w fun e w' => ∃ r, e = .returned r ∧ Qfr T9 A9 F9 n9 V9 D9 r w' ∧ Below w.heap.size w w') (hf2 : ∀ (v : Value) (w : World), IntsAt w v lv → Calls Try.prog 20 #[v] w fun e w' => ∃ r, e = .returned r ∧ Qfr T9 A9 F9 n9 V9 D9 r w' ∧ Below w.heap.size w w') :
    Calls Try.prog 3 #[.agg #[.int .i64 nx, .slice xa P.length xc], .agg #[.int .i64 t, .slice sa L.length sc, .int .i64 f, .slice va l.length vc, .int .i64 dn], .agg #[.int .i64 a, .int .i64 b, .int .i64 c, .int .i64 d], .slice na lv.length nc, .int .i64 yf, .int .i64 yv, .int .i64 yl] w fun e w' => e = .returned (.bool true) ∧ Below w.heap.size w w' := by
  have HP := Lib.hid hp
  have HS := Lib.hid hs
  have HV := Lib.hid hv
  have HN := Lib.hid hn
  have HCP := Lib.hid hc
  have HSM := Lib.hid hsm
  have HPL := Lib.hid (show P.length ≤ 100000 ∧ L.length ≤ 100000 ∧ l.length ≤ 100000 by simp at hsm; omega)
  have g1 : decide ((lv.length : Int) > 30) = false := by simp; omega
  have g2 : decide (30 < (lv.length : Int)) = false := by simp; omega
  have g3 : decide (30 < lv.length) = false := by simp; omega
  have HS1 := Lib.hid hs1
  have HS2 := Lib.hid hs2
  have HRW := Lib.hid hrw
  have HRR := Lib.hid hr
  have HF1 := Lib.hid hf1
  have HF2 := Lib.hid hf2
  clear hlv hs1 hs2 hrw hr hf1 hf2
  clear hp hs hv hn hc hsm
  have H0 := Lib.hid (Below.refl w.heap.size w)
  have H1 := Lib.hid (keep2 (al w (.cells #[.int .i64 nx, .slice xa P.length xc] 24)) H0.out)
  clear H0
  have H2 := Lib.hid (Cs.new w (w.heap.size) #[.int .i64 nx, .slice xa P.length xc] 24 (by simp))
  have H3 := Lib.hid (H2.out.step (al (w.alloc (.cells #[.int .i64 nx, .slice xa P.length xc] 24)) (.cells #[.int .i64 t, .slice sa L.length sc, .int .i64 f, .slice va l.length vc, .int .i64 dn] 30)))
  clear H2
  have H4 := Lib.hid (keep2 (al (w.alloc (.cells #[.int .i64 nx, .slice xa P.length xc] 24)) (.cells #[.int .i64 t, .slice sa L.length sc, .int .i64 f, .slice va l.length vc, .int .i64 dn] 30)) H1.out)
  clear H1
  have H5 := Lib.hid (Cs.new (w.alloc (.cells #[.int .i64 nx, .slice xa P.length xc] 24)) (w.heap.size + 1) #[.int .i64 t, .slice sa L.length sc, .int .i64 f, .slice va l.length vc, .int .i64 dn] 30 (by simp))
  have H6 := Lib.hid (H3.out.step (al ((w.alloc (.cells #[.int .i64 nx, .slice xa P.length xc] 24)).alloc (.cells #[.int .i64 t, .slice sa L.length sc, .int .i64 f, .slice va l.length vc, .int .i64 dn] 30)) (.cells #[.int .i64 a, .int .i64 b, .int .i64 c, .int .i64 d] 32)))
  clear H3
  have H7 := Lib.hid (H5.out.step (al ((w.alloc (.cells #[.int .i64 nx, .slice xa P.length xc] 24)).alloc (.cells #[.int .i64 t, .slice sa L.length sc, .int .i64 f, .slice va l.length vc, .int .i64 dn] 30)) (.cells #[.int .i64 a, .int .i64 b, .int .i64 c, .int .i64 d] 32)))
  clear H5
  have H8 := Lib.hid (keep2 (al ((w.alloc (.cells #[.int .i64 nx, .slice xa P.length xc] 24)).alloc (.cells #[.int .i64 t, .slice sa L.length sc, .int .i64 f, .slice va l.length vc, .int .i64 dn] 30)) (.cells #[.int .i64 a, .int .i64 b, .int .i64 c, .int .i64 d] 32)) H4.out)
  clear H4
  have H9 := Lib.hid (Cs.new ((w.alloc (.cells #[.int .i64 nx, .slice xa P.length xc] 24)).alloc (.cells #[.int .i64 t, .slice sa L.length sc, .int .i64 f, .slice va l.length vc, .int .i64 dn] 30)) (w.heap.size + 1 + 1) #[.int .i64 a, .int .i64 b, .int .i64 c, .int .i64 d] 32 (by simp))
  go_enter Try.func3, Try.ntmps3
  go_wp2_with fail
  refine (head_any _).mono ?_
  rintro e u1 ⟨rfl, b1⟩
  have H10 := Lib.hid (H6.out.step b1)
  clear H6
  have H11 := Lib.hid (H7.out.step b1)
  clear H7
  have H12 := Lib.hid (H9.out.step b1)
  clear H9
  have H13 := Lib.hid (keep2 b1 H8.out)
  clear H8
  clear b1
  have xS0 : u1.cell? ⟨(w.heap.size), 0, none⟩ = some (.int .i64 nx) := H10.out.c 0 rfl
  have xS1 : u1.cell? ⟨(w.heap.size), 1, none⟩ = some (.slice xa P.length xc) := H10.out.c 1 rfl
  have zS : (w.heap.size) < u1.heap.size := H10.out.2.2
  have xR0 : u1.cell? ⟨(w.heap.size + 1), 0, none⟩ = some (.int .i64 t) := H11.out.c 0 rfl
  have xR1 : u1.cell? ⟨(w.heap.size + 1), 1, none⟩ = some (.slice sa L.length sc) := H11.out.c 1 rfl
  have xR2 : u1.cell? ⟨(w.heap.size + 1), 2, none⟩ = some (.int .i64 f) := H11.out.c 2 rfl
  have xR3 : u1.cell? ⟨(w.heap.size + 1), 3, none⟩ = some (.slice va l.length vc) := H11.out.c 3 rfl
  have xR4 : u1.cell? ⟨(w.heap.size + 1), 4, none⟩ = some (.int .i64 dn) := H11.out.c 4 rfl
  have zR : (w.heap.size + 1) < u1.heap.size := H11.out.2.2
  go_wp2_with fail
  refine (small_any nx t f dn xa sa va P.length L.length l.length xc sc vc true HSM.out _).mono ?_
  rintro e u2 ⟨rfl, b2⟩
  clear xS0 xS1 zS xR0 xR1 xR2 xR3 xR4 zR
  have H14 := Lib.hid (H10.out.step b2)
  clear H10
  have H15 := Lib.hid (H11.out.step b2)
  clear H11
  have H16 := Lib.hid (H12.out.step b2)
  clear H12
  have H17 := Lib.hid (keep2 b2 H13.out)
  clear H13
  clear b2
  have xS0 : u2.cell? ⟨(w.heap.size), 0, none⟩ = some (.int .i64 nx) := H14.out.c 0 rfl
  have xS1 : u2.cell? ⟨(w.heap.size), 1, none⟩ = some (.slice xa P.length xc) := H14.out.c 1 rfl
  have zS : (w.heap.size) < u2.heap.size := H14.out.2.2
  go_wp2_with fail
  refine (HS1.out xa xc _ (HP.out.step H17.out) HPL.out.1).mono ?_
  rintro e u3 ⟨c1, a1, rfl, hA, -, b3⟩
  clear xS0 xS1 zS
  have H18 := Lib.hid (H14.out.step b3)
  clear H14
  have H19 := Lib.hid (H15.out.step b3)
  clear H15
  have H20 := Lib.hid (H16.out.step b3)
  clear H16
  have H21 := Lib.hid (keep2 b3 H17.out)
  clear H17
  clear b3
  have H22 := Lib.hid (hA)
  clear hA
  have H23 := Lib.hid (H18.out.step (al u3 (.cells #[.int .i64 NX, .slice a1 LL.length c1] 24)))
  clear H18
  have H24 := Lib.hid (H19.out.step (al u3 (.cells #[.int .i64 NX, .slice a1 LL.length c1] 24)))
  clear H19
  have H25 := Lib.hid (H20.out.step (al u3 (.cells #[.int .i64 NX, .slice a1 LL.length c1] 24)))
  clear H20
  have H26 := Lib.hid (H22.out.step (al u3 (.cells #[.int .i64 NX, .slice a1 LL.length c1] 24)))
  clear H22
  have H27 := Lib.hid (keep2 (al u3 (.cells #[.int .i64 NX, .slice a1 LL.length c1] 24)) H21.out)
  clear H21
  have H28 := Lib.hid (Cs.new u3 (u3.heap.size) #[.int .i64 NX, .slice a1 LL.length c1] 24 (by simp))
  have xS0 : (u3.alloc (.cells #[.int .i64 NX, .slice a1 LL.length c1] 24)).cell? ⟨(w.heap.size), 0, none⟩ = some (.int .i64 nx) := H23.out.c 0 rfl
  have xS1 : (u3.alloc (.cells #[.int .i64 NX, .slice a1 LL.length c1] 24)).cell? ⟨(w.heap.size), 1, none⟩ = some (.slice xa P.length xc) := H23.out.c 1 rfl
  have zS : (w.heap.size) < (u3.alloc (.cells #[.int .i64 NX, .slice a1 LL.length c1] 24)).heap.size := H23.out.2.2
  have xA0 : (u3.alloc (.cells #[.int .i64 NX, .slice a1 LL.length c1] 24)).cell? ⟨(u3.heap.size), 0, none⟩ = some (.int .i64 NX) := H28.out.c 0 rfl
  have xA1 : (u3.alloc (.cells #[.int .i64 NX, .slice a1 LL.length c1] 24)).cell? ⟨(u3.heap.size), 1, none⟩ = some (.slice a1 LL.length c1) := H28.out.c 1 rfl
  have zA : (u3.heap.size) < (u3.alloc (.cells #[.int .i64 NX, .slice a1 LL.length c1] 24)).heap.size := H28.out.2.2
  go_wp2_with fail
  refine (HS2.out xa xc _ (HP.out.step H27.out) HPL.out.1).mono ?_
  rintro e u4 ⟨c2, a2, rfl, hB, -, b4⟩
  clear xS0 xS1 zS xA0 xA1 zA
  have H29 := Lib.hid (H23.out.step b4)
  clear H23
  have H30 := Lib.hid (H24.out.step b4)
  clear H24
  have H31 := Lib.hid (H25.out.step b4)
  clear H25
  have H32 := Lib.hid (H26.out.step b4)
  clear H26
  have H33 := Lib.hid (H28.out.step b4)
  clear H28
  have H34 := Lib.hid (keep2 b4 H27.out)
  clear H27
  clear b4
  have H35 := Lib.hid (hB)
  clear hB
  have H36 := Lib.hid (H29.out.step (al u4 (.cells #[.int .i64 NX, .slice a2 LL.length c2] 24)))
  clear H29
  have H37 := Lib.hid (H30.out.step (al u4 (.cells #[.int .i64 NX, .slice a2 LL.length c2] 24)))
  clear H30
  have H38 := Lib.hid (H31.out.step (al u4 (.cells #[.int .i64 NX, .slice a2 LL.length c2] 24)))
  clear H31
  have H39 := Lib.hid (H32.out.step (al u4 (.cells #[.int .i64 NX, .slice a2 LL.length c2] 24)))
  clear H32
  have H40 := Lib.hid (H33.out.step (al u4 (.cells #[.int .i64 NX, .slice a2 LL.length c2] 24)))
  clear H33
  have H41 := Lib.hid (H35.out.step (al u4 (.cells #[.int .i64 NX, .slice a2 LL.length c2] 24)))
  clear H35
  have H42 := Lib.hid (keep2 (al u4 (.cells #[.int .i64 NX, .slice a2 LL.length c2] 24)) H34.out)
  clear H34
  have H43 := Lib.hid (Cs.new u4 (u4.heap.size) #[.int .i64 NX, .slice a2 LL.length c2] 24 (by simp))
  have xR0 : (u4.alloc (.cells #[.int .i64 NX, .slice a2 LL.length c2] 24)).cell? ⟨(w.heap.size + 1), 0, none⟩ = some (.int .i64 t) := H37.out.c 0 rfl
  have xR1 : (u4.alloc (.cells #[.int .i64 NX, .slice a2 LL.length c2] 24)).cell? ⟨(w.heap.size + 1), 1, none⟩ = some (.slice sa L.length sc) := H37.out.c 1 rfl
  have xR2 : (u4.alloc (.cells #[.int .i64 NX, .slice a2 LL.length c2] 24)).cell? ⟨(w.heap.size + 1), 2, none⟩ = some (.int .i64 f) := H37.out.c 2 rfl
  have xR3 : (u4.alloc (.cells #[.int .i64 NX, .slice a2 LL.length c2] 24)).cell? ⟨(w.heap.size + 1), 3, none⟩ = some (.slice va l.length vc) := H37.out.c 3 rfl
  have xR4 : (u4.alloc (.cells #[.int .i64 NX, .slice a2 LL.length c2] 24)).cell? ⟨(w.heap.size + 1), 4, none⟩ = some (.int .i64 dn) := H37.out.c 4 rfl
  have zR : (w.heap.size + 1) < (u4.alloc (.cells #[.int .i64 NX, .slice a2 LL.length c2] 24)).heap.size := H37.out.2.2
  have xO0 : (u4.alloc (.cells #[.int .i64 NX, .slice a2 LL.length c2] 24)).cell? ⟨(w.heap.size + 1 + 1), 0, none⟩ = some (.int .i64 a) := H38.out.c 0 rfl
  have xO1 : (u4.alloc (.cells #[.int .i64 NX, .slice a2 LL.length c2] 24)).cell? ⟨(w.heap.size + 1 + 1), 1, none⟩ = some (.int .i64 b) := H38.out.c 1 rfl
  have xO2 : (u4.alloc (.cells #[.int .i64 NX, .slice a2 LL.length c2] 24)).cell? ⟨(w.heap.size + 1 + 1), 2, none⟩ = some (.int .i64 c) := H38.out.c 2 rfl
  have xO3 : (u4.alloc (.cells #[.int .i64 NX, .slice a2 LL.length c2] 24)).cell? ⟨(w.heap.size + 1 + 1), 3, none⟩ = some (.int .i64 d) := H38.out.c 3 rfl
  have zO : (w.heap.size + 1 + 1) < (u4.alloc (.cells #[.int .i64 NX, .slice a2 LL.length c2] 24)).heap.size := H38.out.2.2
  have xB0 : (u4.alloc (.cells #[.int .i64 NX, .slice a2 LL.length c2] 24)).cell? ⟨(u4.heap.size), 0, none⟩ = some (.int .i64 NX) := H43.out.c 0 rfl
  have xB1 : (u4.alloc (.cells #[.int .i64 NX, .slice a2 LL.length c2] 24)).cell? ⟨(u4.heap.size), 1, none⟩ = some (.slice a2 LL.length c2) := H43.out.c 1 rfl
  have zB : (u4.heap.size) < (u4.alloc (.cells #[.int .i64 NX, .slice a2 LL.length c2] 24)).heap.size := H43.out.2.2
  go_wp2_with fail
  refine (receive_is HRW.out _ _ _ (HS.out.step H42.out) (HV.out.step H42.out) HPL.out.2.1 HPL.out.2.2).mono ?_
  rintro e u5 ⟨c3, d3, a3, v3, rfl, -, hC, hI, b5, -, -⟩
  clear xR0 xR1 xR2 xR3 xR4 zR xO0 xO1 xO2 xO3 zO xB0 xB1 zB
  have H44 := Lib.hid (H36.out.step b5)
  clear H36
  have H45 := Lib.hid (H37.out.step b5)
  clear H37
  have H46 := Lib.hid (H38.out.step b5)
  clear H38
  have H47 := Lib.hid (H39.out.step b5)
  clear H39
  have H48 := Lib.hid (H40.out.step b5)
  clear H40
  have H49 := Lib.hid (H41.out.step b5)
  clear H41
  have H50 := Lib.hid (H43.out.step b5)
  clear H43
  have H51 := Lib.hid (keep2 b5 H42.out)
  clear H42
  clear b5
  have H52 := Lib.hid (hC)
  have H53 := Lib.hid (hI)
  clear hC hI
  have H54 := Lib.hid (H44.out.step (al u5 (.cells #[.int .i64 T, .slice a3 A.length c3, .int .i64 F, .slice v3 l.length d3, .int .i64 D] 30)))
  clear H44
  have H55 := Lib.hid (H45.out.step (al u5 (.cells #[.int .i64 T, .slice a3 A.length c3, .int .i64 F, .slice v3 l.length d3, .int .i64 D] 30)))
  clear H45
  have H56 := Lib.hid (H46.out.step (al u5 (.cells #[.int .i64 T, .slice a3 A.length c3, .int .i64 F, .slice v3 l.length d3, .int .i64 D] 30)))
  clear H46
  have H57 := Lib.hid (H47.out.step (al u5 (.cells #[.int .i64 T, .slice a3 A.length c3, .int .i64 F, .slice v3 l.length d3, .int .i64 D] 30)))
  clear H47
  have H58 := Lib.hid (H48.out.step (al u5 (.cells #[.int .i64 T, .slice a3 A.length c3, .int .i64 F, .slice v3 l.length d3, .int .i64 D] 30)))
  clear H48
  have H59 := Lib.hid (H49.out.step (al u5 (.cells #[.int .i64 T, .slice a3 A.length c3, .int .i64 F, .slice v3 l.length d3, .int .i64 D] 30)))
  clear H49
  have H60 := Lib.hid (H50.out.step (al u5 (.cells #[.int .i64 T, .slice a3 A.length c3, .int .i64 F, .slice v3 l.length d3, .int .i64 D] 30)))
  clear H50
  have H61 := Lib.hid (H52.out.step (al u5 (.cells #[.int .i64 T, .slice a3 A.length c3, .int .i64 F, .slice v3 l.length d3, .int .i64 D] 30)))
  clear H52
  have H62 := Lib.hid (H53.out.step (al u5 (.cells #[.int .i64 T, .slice a3 A.length c3, .int .i64 F, .slice v3 l.length d3, .int .i64 D] 30)))
  clear H53
  have H63 := Lib.hid (keep2 (al u5 (.cells #[.int .i64 T, .slice a3 A.length c3, .int .i64 F, .slice v3 l.length d3, .int .i64 D] 30)) H51.out)
  clear H51
  have H64 := Lib.hid (Cs.new u5 (u5.heap.size) #[.int .i64 T, .slice a3 A.length c3, .int .i64 F, .slice v3 l.length d3, .int .i64 D] 30 (by simp))
  have xR0 : (u5.alloc (.cells #[.int .i64 T, .slice a3 A.length c3, .int .i64 F, .slice v3 l.length d3, .int .i64 D] 30)).cell? ⟨(w.heap.size + 1), 0, none⟩ = some (.int .i64 t) := H55.out.c 0 rfl
  have xR1 : (u5.alloc (.cells #[.int .i64 T, .slice a3 A.length c3, .int .i64 F, .slice v3 l.length d3, .int .i64 D] 30)).cell? ⟨(w.heap.size + 1), 1, none⟩ = some (.slice sa L.length sc) := H55.out.c 1 rfl
  have xR2 : (u5.alloc (.cells #[.int .i64 T, .slice a3 A.length c3, .int .i64 F, .slice v3 l.length d3, .int .i64 D] 30)).cell? ⟨(w.heap.size + 1), 2, none⟩ = some (.int .i64 f) := H55.out.c 2 rfl
  have xR3 : (u5.alloc (.cells #[.int .i64 T, .slice a3 A.length c3, .int .i64 F, .slice v3 l.length d3, .int .i64 D] 30)).cell? ⟨(w.heap.size + 1), 3, none⟩ = some (.slice va l.length vc) := H55.out.c 3 rfl
  have xR4 : (u5.alloc (.cells #[.int .i64 T, .slice a3 A.length c3, .int .i64 F, .slice v3 l.length d3, .int .i64 D] 30)).cell? ⟨(w.heap.size + 1), 4, none⟩ = some (.int .i64 dn) := H55.out.c 4 rfl
  have zR : (w.heap.size + 1) < (u5.alloc (.cells #[.int .i64 T, .slice a3 A.length c3, .int .i64 F, .slice v3 l.length d3, .int .i64 D] 30)).heap.size := H55.out.2.2
  have xO0 : (u5.alloc (.cells #[.int .i64 T, .slice a3 A.length c3, .int .i64 F, .slice v3 l.length d3, .int .i64 D] 30)).cell? ⟨(w.heap.size + 1 + 1), 0, none⟩ = some (.int .i64 a) := H56.out.c 0 rfl
  have xO1 : (u5.alloc (.cells #[.int .i64 T, .slice a3 A.length c3, .int .i64 F, .slice v3 l.length d3, .int .i64 D] 30)).cell? ⟨(w.heap.size + 1 + 1), 1, none⟩ = some (.int .i64 b) := H56.out.c 1 rfl
  have xO2 : (u5.alloc (.cells #[.int .i64 T, .slice a3 A.length c3, .int .i64 F, .slice v3 l.length d3, .int .i64 D] 30)).cell? ⟨(w.heap.size + 1 + 1), 2, none⟩ = some (.int .i64 c) := H56.out.c 2 rfl
  have xO3 : (u5.alloc (.cells #[.int .i64 T, .slice a3 A.length c3, .int .i64 F, .slice v3 l.length d3, .int .i64 D] 30)).cell? ⟨(w.heap.size + 1 + 1), 3, none⟩ = some (.int .i64 d) := H56.out.c 3 rfl
  have zO : (w.heap.size + 1 + 1) < (u5.alloc (.cells #[.int .i64 T, .slice a3 A.length c3, .int .i64 F, .slice v3 l.length d3, .int .i64 D] 30)).heap.size := H56.out.2.2
  have xC0 : (u5.alloc (.cells #[.int .i64 T, .slice a3 A.length c3, .int .i64 F, .slice v3 l.length d3, .int .i64 D] 30)).cell? ⟨(u5.heap.size), 0, none⟩ = some (.int .i64 T) := H64.out.c 0 rfl
  have xC1 : (u5.alloc (.cells #[.int .i64 T, .slice a3 A.length c3, .int .i64 F, .slice v3 l.length d3, .int .i64 D] 30)).cell? ⟨(u5.heap.size), 1, none⟩ = some (.slice a3 A.length c3) := H64.out.c 1 rfl
  have xC2 : (u5.alloc (.cells #[.int .i64 T, .slice a3 A.length c3, .int .i64 F, .slice v3 l.length d3, .int .i64 D] 30)).cell? ⟨(u5.heap.size), 2, none⟩ = some (.int .i64 F) := H64.out.c 2 rfl
  have xC3 : (u5.alloc (.cells #[.int .i64 T, .slice a3 A.length c3, .int .i64 F, .slice v3 l.length d3, .int .i64 D] 30)).cell? ⟨(u5.heap.size), 3, none⟩ = some (.slice v3 l.length d3) := H64.out.c 3 rfl
  have xC4 : (u5.alloc (.cells #[.int .i64 T, .slice a3 A.length c3, .int .i64 F, .slice v3 l.length d3, .int .i64 D] 30)).cell? ⟨(u5.heap.size), 4, none⟩ = some (.int .i64 D) := H64.out.c 4 rfl
  have zC : (u5.heap.size) < (u5.alloc (.cells #[.int .i64 T, .slice a3 A.length c3, .int .i64 F, .slice v3 l.length d3, .int .i64 D] 30)).heap.size := H64.out.2.2
  go_wp2_with fail
  refine (rreceive_is HRW.out sa va sc vc _ (HS.out.step H63.out) HCP.out (HV.out.step H63.out) HPL.out.2.2).mono ?_
  rintro e u6 ⟨c4, d4, a4, v4, rfl, -, hC, hI, b6⟩
  clear xR0 xR1 xR2 xR3 xR4 zR xO0 xO1 xO2 xO3 zO xC0 xC1 xC2 xC3 xC4 zC
  have H65 := Lib.hid (H54.out.step b6)
  clear H54
  have H66 := Lib.hid (H55.out.step b6)
  clear H55
  have H67 := Lib.hid (H56.out.step b6)
  clear H56
  have H68 := Lib.hid (H57.out.step b6)
  clear H57
  have H69 := Lib.hid (H58.out.step b6)
  clear H58
  have H70 := Lib.hid (H59.out.step b6)
  clear H59
  have H71 := Lib.hid (H60.out.step b6)
  clear H60
  have H72 := Lib.hid (H61.out.step b6)
  clear H61
  have H73 := Lib.hid (H62.out.step b6)
  clear H62
  have H74 := Lib.hid (H64.out.step b6)
  clear H64
  have H75 := Lib.hid (keep2 b6 H63.out)
  clear H63
  clear b6
  have H76 := Lib.hid (hC)
  have H77 := Lib.hid (hI)
  clear hC hI
  have H78 := Lib.hid (H65.out.step (al u6 (.cells #[.int .i64 T, .slice a4 A.length c4, .int .i64 F, .slice v4 l.length d4, .int .i64 D] 30)))
  clear H65
  have H79 := Lib.hid (H66.out.step (al u6 (.cells #[.int .i64 T, .slice a4 A.length c4, .int .i64 F, .slice v4 l.length d4, .int .i64 D] 30)))
  clear H66
  have H80 := Lib.hid (H67.out.step (al u6 (.cells #[.int .i64 T, .slice a4 A.length c4, .int .i64 F, .slice v4 l.length d4, .int .i64 D] 30)))
  clear H67
  have H81 := Lib.hid (H68.out.step (al u6 (.cells #[.int .i64 T, .slice a4 A.length c4, .int .i64 F, .slice v4 l.length d4, .int .i64 D] 30)))
  clear H68
  have H82 := Lib.hid (H69.out.step (al u6 (.cells #[.int .i64 T, .slice a4 A.length c4, .int .i64 F, .slice v4 l.length d4, .int .i64 D] 30)))
  clear H69
  have H83 := Lib.hid (H70.out.step (al u6 (.cells #[.int .i64 T, .slice a4 A.length c4, .int .i64 F, .slice v4 l.length d4, .int .i64 D] 30)))
  clear H70
  have H84 := Lib.hid (H71.out.step (al u6 (.cells #[.int .i64 T, .slice a4 A.length c4, .int .i64 F, .slice v4 l.length d4, .int .i64 D] 30)))
  clear H71
  have H85 := Lib.hid (H72.out.step (al u6 (.cells #[.int .i64 T, .slice a4 A.length c4, .int .i64 F, .slice v4 l.length d4, .int .i64 D] 30)))
  clear H72
  have H86 := Lib.hid (H73.out.step (al u6 (.cells #[.int .i64 T, .slice a4 A.length c4, .int .i64 F, .slice v4 l.length d4, .int .i64 D] 30)))
  clear H73
  have H87 := Lib.hid (H74.out.step (al u6 (.cells #[.int .i64 T, .slice a4 A.length c4, .int .i64 F, .slice v4 l.length d4, .int .i64 D] 30)))
  clear H74
  have H88 := Lib.hid (H76.out.step (al u6 (.cells #[.int .i64 T, .slice a4 A.length c4, .int .i64 F, .slice v4 l.length d4, .int .i64 D] 30)))
  clear H76
  have H89 := Lib.hid (H77.out.step (al u6 (.cells #[.int .i64 T, .slice a4 A.length c4, .int .i64 F, .slice v4 l.length d4, .int .i64 D] 30)))
  clear H77
  have H90 := Lib.hid (keep2 (al u6 (.cells #[.int .i64 T, .slice a4 A.length c4, .int .i64 F, .slice v4 l.length d4, .int .i64 D] 30)) H75.out)
  clear H75
  have H91 := Lib.hid (Cs.new u6 (u6.heap.size) #[.int .i64 T, .slice a4 A.length c4, .int .i64 F, .slice v4 l.length d4, .int .i64 D] 30 (by simp))
  have xD0 : (u6.alloc (.cells #[.int .i64 T, .slice a4 A.length c4, .int .i64 F, .slice v4 l.length d4, .int .i64 D] 30)).cell? ⟨(u6.heap.size), 0, none⟩ = some (.int .i64 T) := H91.out.c 0 rfl
  have xD1 : (u6.alloc (.cells #[.int .i64 T, .slice a4 A.length c4, .int .i64 F, .slice v4 l.length d4, .int .i64 D] 30)).cell? ⟨(u6.heap.size), 1, none⟩ = some (.slice a4 A.length c4) := H91.out.c 1 rfl
  have xD2 : (u6.alloc (.cells #[.int .i64 T, .slice a4 A.length c4, .int .i64 F, .slice v4 l.length d4, .int .i64 D] 30)).cell? ⟨(u6.heap.size), 2, none⟩ = some (.int .i64 F) := H91.out.c 2 rfl
  have xD3 : (u6.alloc (.cells #[.int .i64 T, .slice a4 A.length c4, .int .i64 F, .slice v4 l.length d4, .int .i64 D] 30)).cell? ⟨(u6.heap.size), 3, none⟩ = some (.slice v4 l.length d4) := H91.out.c 3 rfl
  have xD4 : (u6.alloc (.cells #[.int .i64 T, .slice a4 A.length c4, .int .i64 F, .slice v4 l.length d4, .int .i64 D] 30)).cell? ⟨(u6.heap.size), 4, none⟩ = some (.int .i64 D) := H91.out.c 4 rfl
  have zD : (u6.heap.size) < (u6.alloc (.cells #[.int .i64 T, .slice a4 A.length c4, .int .i64 F, .slice v4 l.length d4, .int .i64 D] 30)).heap.size := H91.out.2.2
  go_upto_region 8 with fail
  obtain ⟨WE, hWE⟩ : ∃ z, (u6.alloc (.cells #[.int .i64 T, .slice a4 A.length c4, .int .i64 F, .slice v4 l.length d4, .int .i64 D] 30)) = z := ⟨_, rfl⟩
  rw [hWE] at H78 H79 H80 H81 H82 H83 H84 H85 H86 H87 H88 H89 H91 H90 ⊢
  obtain ⟨kA, hkA⟩ : ∃ z, (u3.heap.size) = z := ⟨_, rfl⟩
  try rw [hkA] at H82 ⊢
  clear hkA
  obtain ⟨kB, hkB⟩ : ∃ z, (u4.heap.size) = z := ⟨_, rfl⟩
  try rw [hkB] at H84 ⊢
  clear hkB
  obtain ⟨kC, hkC⟩ : ∃ z, (u5.heap.size) = z := ⟨_, rfl⟩
  try rw [hkC] at H87 ⊢
  clear hkC
  obtain ⟨kD, hkD⟩ : ∃ z, (u6.heap.size) = z := ⟨_, rfl⟩
  try rw [hkD] at H91 ⊢
  clear hkD
  clear hWE xD0 xD1 xD2 xD3 xD4 zD
  have HBX := Lib.hid H90.out
  obtain ⟨lit, hlit⟩ : ∃ lit : (Nat → Value) → Act, lit = fun vs => { tmps := List.toArray (Value.agg #[Value.int IntKind.i64 nx, Value.slice xa P.length xc] :: Value.agg #[Value.int IntKind.i64 t, Value.slice sa L.length sc, Value.int IntKind.i64 f, Value.slice va l.length vc, Value.int IntKind.i64 dn] :: Value.agg #[Value.int IntKind.i64 a, Value.int IntKind.i64 b, Value.int IntKind.i64 c, Value.int IntKind.i64 d] :: Value.slice na lv.length nc :: Value.int IntKind.i64 yf :: Value.int IntKind.i64 yv :: Value.int IntKind.i64 yl :: Value.pointer (some { block := w.heap.size, off := 0 }) :: Value.pointer (some { block := w.heap.size + 1, off := 0 }) :: Value.pointer (some { block := w.heap.size + 1 + 1, off := 0 }) :: undef :: undef :: undef :: undef :: vs 44 :: Value.bool true :: Value.pointer (some { block := kA, off := 0 }) :: Value.int IntKind.i64 er :: Value.pointer (some { block := kB, off := 0 }) :: Value.int IntKind.i64 er :: Value.pointer (some { block := kC, off := 0 }) :: Value.bool ok :: Value.int IntKind.i64 e2 :: Value.pointer (some { block := kD, off := 0 }) :: Value.bool ok :: Value.int IntKind.i64 e2 :: Value.bool true :: Value.agg #[Value.int IntKind.i64 nx, Value.slice xa P.length xc] :: Value.agg #[Value.int IntKind.i64 t, Value.slice sa L.length sc, Value.int IntKind.i64 f, Value.slice va l.length vc, Value.int IntKind.i64 dn] :: Value.bool true :: Value.bool false :: Value.bool false :: Value.slice na lv.length nc :: Value.int IntKind.i64 (lv.length : Int) :: Value.bool false :: Value.bool false :: undef :: Value.tuple #[Value.agg #[Value.int IntKind.i64 NX, Value.slice a1 LL.length c1], Value.int IntKind.i64 er] :: Value.agg #[Value.int IntKind.i64 nx, Value.slice xa P.length xc] :: Value.int IntKind.i64 yf :: Value.int IntKind.i64 yv :: Value.int IntKind.i64 yl :: Value.tuple #[Value.agg #[Value.int IntKind.i64 NX, Value.slice a1 LL.length c1], Value.int IntKind.i64 er] :: Value.agg #[Value.int IntKind.i64 NX, Value.slice a1 LL.length c1] :: Value.int IntKind.i64 er :: Value.tuple #[Value.agg #[Value.int IntKind.i64 NX, Value.slice a2 LL.length c2], Value.int IntKind.i64 er] :: Value.agg #[Value.int IntKind.i64 nx, Value.slice xa P.length xc] :: Value.int IntKind.i64 yf :: Value.int IntKind.i64 yv :: Value.int IntKind.i64 yl :: Value.tuple #[Value.agg #[Value.int IntKind.i64 NX, Value.slice a2 LL.length c2], Value.int IntKind.i64 er] :: Value.agg #[Value.int IntKind.i64 NX, Value.slice a2 LL.length c2] :: Value.int IntKind.i64 er :: Value.tuple #[Value.agg #[Value.int IntKind.i64 T, Value.slice a3 A.length c3, Value.int IntKind.i64 F, Value.slice v3 l.length d3, Value.int IntKind.i64 D], Value.bool ok, Value.int IntKind.i64 e2] :: Value.agg #[Value.int IntKind.i64 t, Value.slice sa L.length sc, Value.int IntKind.i64 f, Value.slice va l.length vc, Value.int IntKind.i64 dn] :: Value.agg #[Value.int IntKind.i64 a, Value.int IntKind.i64 b, Value.int IntKind.i64 c, Value.int IntKind.i64 d] :: Value.tuple #[Value.agg #[Value.int IntKind.i64 T, Value.slice a3 A.length c3, Value.int IntKind.i64 F, Value.slice v3 l.length d3, Value.int IntKind.i64 D], Value.bool ok, Value.int IntKind.i64 e2] :: Value.agg #[Value.int IntKind.i64 T, Value.slice a3 A.length c3, Value.int IntKind.i64 F, Value.slice v3 l.length d3, Value.int IntKind.i64 D] :: Value.bool ok :: Value.int IntKind.i64 e2 :: Value.tuple #[Value.agg #[Value.int IntKind.i64 T, Value.slice a4 A.length c4, Value.int IntKind.i64 F, Value.slice v4 l.length d4, Value.int IntKind.i64 D], Value.bool ok, Value.int IntKind.i64 e2] :: Value.agg #[Value.int IntKind.i64 t, Value.slice sa L.length sc, Value.int IntKind.i64 f, Value.slice va l.length vc, Value.int IntKind.i64 dn] :: Value.agg #[Value.int IntKind.i64 a, Value.int IntKind.i64 b, Value.int IntKind.i64 c, Value.int IntKind.i64 d] :: Value.tuple #[Value.agg #[Value.int IntKind.i64 T, Value.slice a4 A.length c4, Value.int IntKind.i64 F, Value.slice v4 l.length d4, Value.int IntKind.i64 D], Value.bool ok, Value.int IntKind.i64 e2] :: Value.agg #[Value.int IntKind.i64 T, Value.slice a4 A.length c4, Value.int IntKind.i64 F, Value.slice v4 l.length d4, Value.int IntKind.i64 D] :: Value.bool ok :: Value.int IntKind.i64 e2 :: vs 0 :: vs 1 :: vs 2 :: vs 3 :: vs 4 :: vs 5 :: vs 6 :: vs 7 :: vs 8 :: vs 9 :: vs 10 :: vs 11 :: vs 12 :: vs 13 :: vs 14 :: vs 15 :: vs 16 :: vs 17 :: vs 18 :: vs 19 :: vs 20 :: vs 21 :: vs 22 :: vs 23 :: vs 24 :: vs 25 :: vs 26 :: vs 27 :: vs 28 :: vs 29 :: vs 30 :: vs 31 :: vs 32 :: vs 33 :: vs 34 :: vs 35 :: vs 36 :: vs 37 :: vs 38 :: vs 39 :: vs 40 :: vs 41 :: vs 42 :: vs 43 :: []), defers := [] } := ⟨_, rfl⟩
  have HLIT := Lib.hid hlit
  clear hlit
  obtain ⟨val, hval⟩ : ∃ val : List Value, val = [.bool true, .bool true, .int .i64 er, .int .i64 er, .bool true, .bool true, .bool true, .agg #[.int .i64 NX, .slice a1 LL.length c1], .agg #[.int .i64 NX, .slice a2 LL.length c2], .bool true, .bool true, .bool true, .int .i64 e2, .int .i64 e2, .bool true, .bool true, .bool true, .bool ok, .bool ok, .bool true, .bool true, .bool true, .agg #[.int .i64 T, .slice a3 A.length c3, .int .i64 F, .slice v3 l.length d3, .int .i64 D], .agg #[.int .i64 T, .slice a4 A.length c4, .int .i64 F, .slice v4 l.length d4, .int .i64 D], .bool true, .bool true, .bool true, .agg #[.int .i64 nx, .slice xa P.length xc], .pointer (some ⟨(w.heap.size + 1 + 1), 0, none⟩), .int .i64 a, undef, .agg #[.int .i64 nx, .slice xa P.length xc], .pointer (some ⟨(w.heap.size + 1 + 1), 0, none⟩), .int .i64 a, undef, .bool true, .bool true, .bool true, .slice na lv.length nc, undef, .slice na lv.length nc, undef, .bool true, .bool true, .bool true] := ⟨_, rfl⟩
  have E0 := Lib.hid (show val.getD 0 undef = .bool true by rw [hval]; rfl)
  have E1 := Lib.hid (show val.getD 1 undef = .bool true by rw [hval]; rfl)
  have E2 := Lib.hid (show val.getD 2 undef = .int .i64 er by rw [hval]; rfl)
  have E3 := Lib.hid (show val.getD 3 undef = .int .i64 er by rw [hval]; rfl)
  have E4 := Lib.hid (show val.getD 4 undef = .bool true by rw [hval]; rfl)
  have E5 := Lib.hid (show val.getD 5 undef = .bool true by rw [hval]; rfl)
  have E6 := Lib.hid (show val.getD 6 undef = .bool true by rw [hval]; rfl)
  have E7 := Lib.hid (show val.getD 7 undef = .agg #[.int .i64 NX, .slice a1 LL.length c1] by rw [hval]; rfl)
  have E8 := Lib.hid (show val.getD 8 undef = .agg #[.int .i64 NX, .slice a2 LL.length c2] by rw [hval]; rfl)
  have E9 := Lib.hid (show val.getD 9 undef = .bool true by rw [hval]; rfl)
  have E10 := Lib.hid (show val.getD 10 undef = .bool true by rw [hval]; rfl)
  have E11 := Lib.hid (show val.getD 11 undef = .bool true by rw [hval]; rfl)
  have E12 := Lib.hid (show val.getD 12 undef = .int .i64 e2 by rw [hval]; rfl)
  have E13 := Lib.hid (show val.getD 13 undef = .int .i64 e2 by rw [hval]; rfl)
  have E14 := Lib.hid (show val.getD 14 undef = .bool true by rw [hval]; rfl)
  have E15 := Lib.hid (show val.getD 15 undef = .bool true by rw [hval]; rfl)
  have E16 := Lib.hid (show val.getD 16 undef = .bool true by rw [hval]; rfl)
  have E17 := Lib.hid (show val.getD 17 undef = .bool ok by rw [hval]; rfl)
  have E18 := Lib.hid (show val.getD 18 undef = .bool ok by rw [hval]; rfl)
  have E19 := Lib.hid (show val.getD 19 undef = .bool true by rw [hval]; rfl)
  have E20 := Lib.hid (show val.getD 20 undef = .bool true by rw [hval]; rfl)
  have E21 := Lib.hid (show val.getD 21 undef = .bool true by rw [hval]; rfl)
  have E22 := Lib.hid (show val.getD 22 undef = .agg #[.int .i64 T, .slice a3 A.length c3, .int .i64 F, .slice v3 l.length d3, .int .i64 D] by rw [hval]; rfl)
  have E23 := Lib.hid (show val.getD 23 undef = .agg #[.int .i64 T, .slice a4 A.length c4, .int .i64 F, .slice v4 l.length d4, .int .i64 D] by rw [hval]; rfl)
  have E24 := Lib.hid (show val.getD 24 undef = .bool true by rw [hval]; rfl)
  have E25 := Lib.hid (show val.getD 25 undef = .bool true by rw [hval]; rfl)
  have E26 := Lib.hid (show val.getD 26 undef = .bool true by rw [hval]; rfl)
  have E27 := Lib.hid (show val.getD 27 undef = .agg #[.int .i64 nx, .slice xa P.length xc] by rw [hval]; rfl)
  have E28 := Lib.hid (show val.getD 28 undef = .pointer (some ⟨(w.heap.size + 1 + 1), 0, none⟩) by rw [hval]; rfl)
  have E29 := Lib.hid (show val.getD 29 undef = .int .i64 a by rw [hval]; rfl)
  have E31 := Lib.hid (show val.getD 31 undef = .agg #[.int .i64 nx, .slice xa P.length xc] by rw [hval]; rfl)
  have E32 := Lib.hid (show val.getD 32 undef = .pointer (some ⟨(w.heap.size + 1 + 1), 0, none⟩) by rw [hval]; rfl)
  have E33 := Lib.hid (show val.getD 33 undef = .int .i64 a by rw [hval]; rfl)
  have E35 := Lib.hid (show val.getD 35 undef = .bool true by rw [hval]; rfl)
  have E36 := Lib.hid (show val.getD 36 undef = .bool true by rw [hval]; rfl)
  have E37 := Lib.hid (show val.getD 37 undef = .bool true by rw [hval]; rfl)
  have E38 := Lib.hid (show val.getD 38 undef = .slice na lv.length nc by rw [hval]; rfl)
  have E40 := Lib.hid (show val.getD 40 undef = .slice na lv.length nc by rw [hval]; rfl)
  have E42 := Lib.hid (show val.getD 42 undef = .bool true by rw [hval]; rfl)
  have E43 := Lib.hid (show val.getD 43 undef = .bool true by rw [hval]; rfl)
  have E44 := Lib.hid (show val.getD 44 undef = .bool true by rw [hval]; rfl)
  clear hval
  obtain ⟨G, hG0⟩ : ∃ G : Nat → Value → World → Prop, G = (fun i v w => (i = 30 → Qcs nx (cfL nx a P r) v w) ∧ (i = 34 → Qcs nx (cfL nx a P r) v w) ∧ (i = 39 → Qfr T9 A9 F9 n9 V9 D9 v w) ∧ (i = 41 → Qfr T9 A9 F9 n9 V9 D9 v w) ∧ (i ≠ 30 → i ≠ 34 → i ≠ 39 → i ≠ 41 → v = val.getD i undef)) := ⟨_, rfl⟩
  have HG := Lib.hid hG0
  clear hG0
  refine region_inv (RS lit WE G) (by kernel_rfl) (by decide +kernel) ?_ ?_ ?_
  · exact ⟨fun i => ([undef, undef, undef, undef, undef, undef, undef, undef, undef, undef, undef, undef, undef, undef, undef, undef, undef, undef, undef, undef, undef, undef, undef, undef, undef, undef, undef, undef, undef, undef, undef, undef, undef, undef, undef, undef, undef, undef, undef, undef, undef, undef, undef, undef, Value.bool false] : List Value).getD i undef, (by rw [HLIT.out]; rfl), below_drew _ _, fun i h => by cases h⟩
  · refine ⟨?_, ?_, ?_, ?_, ?_, ?_, ?_, ?_, ?_, ?_, ?_, ?_, ?_, ?_, ?_, ?_, ?_, ?_, ?_, ?_, ?_, ?_, ?_, ?_, ?_, ?_, ?_, ?_, ?_, ?_, ?_, ?_, ?_, ?_, ?_, ?_, ?_, ?_, ?_, ?_, ?_, ?_, ?_, ?_, ?_, trivial⟩
    · intro bf ac wv hfb haf hJ K' hK
      obtain ⟨vs, rfl, hM, j4⟩ := hJ
      replace hK := Lib.hid hK
      replace hM := Lib.hid hM
      rw [HG.out] at j4
      replace j4 := Lib.hid j4
      clear haf hfb
      rw [HLIT.out]
      go_simp
      exact hK.out _ _ (RS.next (wv := wv) (vs := vs) 0 (x := .bool true) (by rw [HLIT.out]; rfl) (by rw [HG.out]; exact j4.out) hM.out (by rw [HG.out]; exact fun _ _ h => h) (by rw [HG.out]; exact ⟨fun h => absurd h (by decide), fun h => absurd h (by decide), fun h => absurd h (by decide), fun h => absurd h (by decide), fun _ _ _ _ => E0.out.symm⟩))
    · intro bf ac wv hfb haf hJ K' hK
      obtain ⟨vs, rfl, hM, j4⟩ := hJ
      replace hK := Lib.hid hK
      replace hM := Lib.hid hM
      rw [HG.out] at j4
      simp [Region.binds] at haf
      have e0 := ((j4 0 (by simp [haf])).2.2.2.2 (by decide) (by decide) (by decide) (by decide)).trans E0.out
      replace j4 := Lib.hid j4
      clear haf hfb
      rw [HLIT.out]
      go_simp
      exact hK.out _ _ (RS.next (wv := wv) (vs := vs) 1 (x := .bool true) (by rw [HLIT.out]; simp only [upv, e0, Nat.reduceBEq, cond_true, cond_false]) (by rw [HG.out]; exact j4.out) hM.out (by rw [HG.out]; exact fun _ _ h => h) (by rw [HG.out]; exact ⟨fun h => absurd h (by decide), fun h => absurd h (by decide), fun h => absurd h (by decide), fun h => absurd h (by decide), fun _ _ _ _ => E1.out.symm⟩))
    · intro bf ac wv hfb haf hJ K' hK
      obtain ⟨vs, rfl, hM, j4⟩ := hJ
      replace hK := Lib.hid hK
      replace hM := Lib.hid hM
      rw [HG.out] at j4
      simp [Region.binds] at haf
      have e1 := ((j4 1 (by simp [haf])).2.2.2.2 (by decide) (by decide) (by decide) (by decide)).trans E1.out
      replace j4 := Lib.hid j4
      clear haf hfb
      rw [HLIT.out]
      go_simp
      exact hK.out _ _ (RS.next (wv := wv) (vs := vs) 2 (x := .int .i64 er) (by rw [HLIT.out]; simp only [upv, e1, Nat.reduceBEq, cond_true, cond_false]) (by rw [HG.out]; exact j4.out) hM.out (by rw [HG.out]; exact fun _ _ h => h) (by rw [HG.out]; exact ⟨fun h => absurd h (by decide), fun h => absurd h (by decide), fun h => absurd h (by decide), fun h => absurd h (by decide), fun _ _ _ _ => E2.out.symm⟩))
    · intro bf ac wv hfb haf hJ K' hK
      obtain ⟨vs, rfl, hM, j4⟩ := hJ
      replace hK := Lib.hid hK
      replace hM := Lib.hid hM
      rw [HG.out] at j4
      simp [Region.binds] at haf
      have e1 := ((j4 1 (by simp [haf])).2.2.2.2 (by decide) (by decide) (by decide) (by decide)).trans E1.out
      replace j4 := Lib.hid j4
      clear haf hfb
      rw [HLIT.out]
      go_simp
      exact hK.out _ _ (RS.next (wv := wv) (vs := vs) 3 (x := .int .i64 er) (by rw [HLIT.out]; simp only [upv, e1, Nat.reduceBEq, cond_true, cond_false]) (by rw [HG.out]; exact j4.out) hM.out (by rw [HG.out]; exact fun _ _ h => h) (by rw [HG.out]; exact ⟨fun h => absurd h (by decide), fun h => absurd h (by decide), fun h => absurd h (by decide), fun h => absurd h (by decide), fun _ _ _ _ => E3.out.symm⟩))
    · intro bf ac wv hfb haf hJ K' hK
      obtain ⟨vs, rfl, hM, j4⟩ := hJ
      replace hK := Lib.hid hK
      replace hM := Lib.hid hM
      rw [HG.out] at j4
      simp [Region.binds] at haf
      have e1 := ((j4 1 (by simp [haf])).2.2.2.2 (by decide) (by decide) (by decide) (by decide)).trans E1.out
      have e2 := ((j4 2 (by simp [haf])).2.2.2.2 (by decide) (by decide) (by decide) (by decide)).trans E2.out
      have e3 := ((j4 3 (by simp [haf])).2.2.2.2 (by decide) (by decide) (by decide) (by decide)).trans E3.out
      replace j4 := Lib.hid j4
      clear haf hfb
      rw [HLIT.out]
      go_simp
      exact hK.out _ _ (RS.next (wv := wv) (vs := vs) 4 (x := .bool true) (by rw [HLIT.out]; simp only [upv, e1, e2, e3, Nat.reduceBEq, cond_true, cond_false]) (by rw [HG.out]; exact j4.out) hM.out (by rw [HG.out]; exact fun _ _ h => h) (by rw [HG.out]; exact ⟨fun h => absurd h (by decide), fun h => absurd h (by decide), fun h => absurd h (by decide), fun h => absurd h (by decide), fun _ _ _ _ => E4.out.symm⟩))
    · intro bf ac wv hfb haf hJ K' hK
      obtain ⟨vs, rfl, hM, j4⟩ := hJ
      replace hK := Lib.hid hK
      replace hM := Lib.hid hM
      rw [HG.out] at j4
      simp [Region.binds] at haf
      have e1 := ((j4 1 (by simp [haf])).2.2.2.2 (by decide) (by decide) (by decide) (by decide)).trans E1.out
      have e4 := ((j4 4 (by simp [haf])).2.2.2.2 (by decide) (by decide) (by decide) (by decide)).trans E4.out
      replace j4 := Lib.hid j4
      clear haf hfb
      rw [HLIT.out]
      go_simp
      exact hK.out _ _ (RS.next (wv := wv) (vs := vs) 5 (x := .bool true) (by rw [HLIT.out]; simp only [upv, e1, e4, Nat.reduceBEq, cond_true, cond_false]) (by rw [HG.out]; exact j4.out) hM.out (by rw [HG.out]; exact fun _ _ h => h) (by rw [HG.out]; exact ⟨fun h => absurd h (by decide), fun h => absurd h (by decide), fun h => absurd h (by decide), fun h => absurd h (by decide), fun _ _ _ _ => E5.out.symm⟩))
    · intro bf ac wv hfb haf hJ K' hK
      obtain ⟨vs, rfl, hM, j4⟩ := hJ
      replace hK := Lib.hid hK
      replace hM := Lib.hid hM
      rw [HG.out] at j4
      simp [Region.binds] at haf
      have e5 := ((j4 5 (by simp [haf])).2.2.2.2 (by decide) (by decide) (by decide) (by decide)).trans E5.out
      replace j4 := Lib.hid j4
      clear haf hfb
      rw [HLIT.out]
      go_simp
      exact hK.out _ _ (RS.next (wv := wv) (vs := vs) 6 (x := .bool true) (by rw [HLIT.out]; simp only [upv, e5, Nat.reduceBEq, cond_true, cond_false]) (by rw [HG.out]; exact j4.out) hM.out (by rw [HG.out]; exact fun _ _ h => h) (by rw [HG.out]; exact ⟨fun h => absurd h (by decide), fun h => absurd h (by decide), fun h => absurd h (by decide), fun h => absurd h (by decide), fun _ _ _ _ => E6.out.symm⟩))
    · intro bf ac wv hfb haf hJ K' hK
      obtain ⟨vs, rfl, hM, j4⟩ := hJ
      replace hK := Lib.hid hK
      replace hM := Lib.hid hM
      rw [HG.out] at j4
      simp [Region.binds] at haf
      have e6 := ((j4 6 (by simp [haf])).2.2.2.2 (by decide) (by decide) (by decide) (by decide)).trans E6.out
      replace j4 := Lib.hid j4
      clear haf hfb
      have xA0 := (H82.out.step hM.out).c 0 rfl
      have xA1 := (H82.out.step hM.out).c 1 rfl
      have xAz := (H82.out.step hM.out).2.2
      rw [HLIT.out]
      go_simp
      exact hK.out _ _ (RS.next (wv := wv) (vs := vs) 7 (x := .agg #[.int .i64 NX, .slice a1 LL.length c1]) (by rw [HLIT.out]; simp only [upv, e6, Nat.reduceBEq, cond_true, cond_false]) (by rw [HG.out]; exact j4.out) hM.out (by rw [HG.out]; exact fun _ _ h => h) (by rw [HG.out]; exact ⟨fun h => absurd h (by decide), fun h => absurd h (by decide), fun h => absurd h (by decide), fun h => absurd h (by decide), fun _ _ _ _ => E7.out.symm⟩))
    · intro bf ac wv hfb haf hJ K' hK
      obtain ⟨vs, rfl, hM, j4⟩ := hJ
      replace hK := Lib.hid hK
      replace hM := Lib.hid hM
      rw [HG.out] at j4
      simp [Region.binds] at haf
      have e6 := ((j4 6 (by simp [haf])).2.2.2.2 (by decide) (by decide) (by decide) (by decide)).trans E6.out
      replace j4 := Lib.hid j4
      clear haf hfb
      have xB0 := (H84.out.step hM.out).c 0 rfl
      have xB1 := (H84.out.step hM.out).c 1 rfl
      have xBz := (H84.out.step hM.out).2.2
      rw [HLIT.out]
      go_simp
      exact hK.out _ _ (RS.next (wv := wv) (vs := vs) 8 (x := .agg #[.int .i64 NX, .slice a2 LL.length c2]) (by rw [HLIT.out]; simp only [upv, e6, Nat.reduceBEq, cond_true, cond_false]) (by rw [HG.out]; exact j4.out) hM.out (by rw [HG.out]; exact fun _ _ h => h) (by rw [HG.out]; exact ⟨fun h => absurd h (by decide), fun h => absurd h (by decide), fun h => absurd h (by decide), fun h => absurd h (by decide), fun _ _ _ _ => E8.out.symm⟩))
    · intro bf ac wv hfb haf hJ K' hK
      obtain ⟨vs, rfl, hM, j4⟩ := hJ
      replace hK := Lib.hid hK
      replace hM := Lib.hid hM
      rw [HG.out] at j4
      simp [Region.binds] at haf
      have e6 := ((j4 6 (by simp [haf])).2.2.2.2 (by decide) (by decide) (by decide) (by decide)).trans E6.out
      have e7 := ((j4 7 (by simp [haf])).2.2.2.2 (by decide) (by decide) (by decide) (by decide)).trans E7.out
      have e8 := ((j4 8 (by simp [haf])).2.2.2.2 (by decide) (by decide) (by decide) (by decide)).trans E8.out
      replace j4 := Lib.hid j4
      clear haf hfb
      rw [HLIT.out]
      go_simp
      go_at_call 15
      refine (sames_any NX a1 a2 c1 c2 LL _ (H81.out.step hM.out) (H83.out.step hM.out)).mono ?_
      rintro e w4 ⟨rfl, b4⟩
      exact hK.out _ _ (RS.next (wv := wv) (vs := vs) 9 (x := .bool true) (by rw [HLIT.out]; simp only [upv, e6, e7, e8, Nat.reduceBEq, cond_true, cond_false]) (by rw [HG.out]; exact j4.out) (keep2 b4 hM.out) (by rw [HG.out]; exact fun k v h => ⟨fun q => (h.1 q).step b4, fun q => (h.2.1 q).step b4, fun q => (h.2.2.1 q).step b4, fun q => (h.2.2.2.1 q).step b4, h.2.2.2.2⟩) (by rw [HG.out]; exact ⟨fun h => absurd h (by decide), fun h => absurd h (by decide), fun h => absurd h (by decide), fun h => absurd h (by decide), fun _ _ _ _ => E9.out.symm⟩))
    · intro bf ac wv hfb haf hJ K' hK
      obtain ⟨vs, rfl, hM, j4⟩ := hJ
      replace hK := Lib.hid hK
      replace hM := Lib.hid hM
      rw [HG.out] at j4
      simp [Region.binds] at haf
      have e6 := ((j4 6 (by simp [haf])).2.2.2.2 (by decide) (by decide) (by decide) (by decide)).trans E6.out
      have e9 := ((j4 9 (by simp [haf])).2.2.2.2 (by decide) (by decide) (by decide) (by decide)).trans E9.out
      replace j4 := Lib.hid j4
      clear haf hfb
      rw [HLIT.out]
      go_simp
      exact hK.out _ _ (RS.next (wv := wv) (vs := vs) 10 (x := .bool true) (by rw [HLIT.out]; simp only [upv, e6, e9, Nat.reduceBEq, cond_true, cond_false]) (by rw [HG.out]; exact j4.out) hM.out (by rw [HG.out]; exact fun _ _ h => h) (by rw [HG.out]; exact ⟨fun h => absurd h (by decide), fun h => absurd h (by decide), fun h => absurd h (by decide), fun h => absurd h (by decide), fun _ _ _ _ => E10.out.symm⟩))
    · intro bf ac wv hfb haf hJ K' hK
      obtain ⟨vs, rfl, hM, j4⟩ := hJ
      replace hK := Lib.hid hK
      replace hM := Lib.hid hM
      rw [HG.out] at j4
      simp [Region.binds] at haf
      have e10 := ((j4 10 (by simp [haf])).2.2.2.2 (by decide) (by decide) (by decide) (by decide)).trans E10.out
      replace j4 := Lib.hid j4
      clear haf hfb
      rw [HLIT.out]
      go_simp
      exact hK.out _ _ (RS.next (wv := wv) (vs := vs) 11 (x := .bool true) (by rw [HLIT.out]; simp only [upv, e10, Nat.reduceBEq, cond_true, cond_false]) (by rw [HG.out]; exact j4.out) hM.out (by rw [HG.out]; exact fun _ _ h => h) (by rw [HG.out]; exact ⟨fun h => absurd h (by decide), fun h => absurd h (by decide), fun h => absurd h (by decide), fun h => absurd h (by decide), fun _ _ _ _ => E11.out.symm⟩))
    · intro bf ac wv hfb haf hJ K' hK
      obtain ⟨vs, rfl, hM, j4⟩ := hJ
      replace hK := Lib.hid hK
      replace hM := Lib.hid hM
      rw [HG.out] at j4
      simp [Region.binds] at haf
      have e11 := ((j4 11 (by simp [haf])).2.2.2.2 (by decide) (by decide) (by decide) (by decide)).trans E11.out
      replace j4 := Lib.hid j4
      clear haf hfb
      rw [HLIT.out]
      go_simp
      exact hK.out _ _ (RS.next (wv := wv) (vs := vs) 12 (x := .int .i64 e2) (by rw [HLIT.out]; simp only [upv, e11, Nat.reduceBEq, cond_true, cond_false]) (by rw [HG.out]; exact j4.out) hM.out (by rw [HG.out]; exact fun _ _ h => h) (by rw [HG.out]; exact ⟨fun h => absurd h (by decide), fun h => absurd h (by decide), fun h => absurd h (by decide), fun h => absurd h (by decide), fun _ _ _ _ => E12.out.symm⟩))
    · intro bf ac wv hfb haf hJ K' hK
      obtain ⟨vs, rfl, hM, j4⟩ := hJ
      replace hK := Lib.hid hK
      replace hM := Lib.hid hM
      rw [HG.out] at j4
      simp [Region.binds] at haf
      have e11 := ((j4 11 (by simp [haf])).2.2.2.2 (by decide) (by decide) (by decide) (by decide)).trans E11.out
      replace j4 := Lib.hid j4
      clear haf hfb
      rw [HLIT.out]
      go_simp
      exact hK.out _ _ (RS.next (wv := wv) (vs := vs) 13 (x := .int .i64 e2) (by rw [HLIT.out]; simp only [upv, e11, Nat.reduceBEq, cond_true, cond_false]) (by rw [HG.out]; exact j4.out) hM.out (by rw [HG.out]; exact fun _ _ h => h) (by rw [HG.out]; exact ⟨fun h => absurd h (by decide), fun h => absurd h (by decide), fun h => absurd h (by decide), fun h => absurd h (by decide), fun _ _ _ _ => E13.out.symm⟩))
    · intro bf ac wv hfb haf hJ K' hK
      obtain ⟨vs, rfl, hM, j4⟩ := hJ
      replace hK := Lib.hid hK
      replace hM := Lib.hid hM
      rw [HG.out] at j4
      simp [Region.binds] at haf
      have e11 := ((j4 11 (by simp [haf])).2.2.2.2 (by decide) (by decide) (by decide) (by decide)).trans E11.out
      have e12 := ((j4 12 (by simp [haf])).2.2.2.2 (by decide) (by decide) (by decide) (by decide)).trans E12.out
      have e13 := ((j4 13 (by simp [haf])).2.2.2.2 (by decide) (by decide) (by decide) (by decide)).trans E13.out
      replace j4 := Lib.hid j4
      clear haf hfb
      rw [HLIT.out]
      go_simp
      exact hK.out _ _ (RS.next (wv := wv) (vs := vs) 14 (x := .bool true) (by rw [HLIT.out]; simp only [upv, e11, e12, e13, Nat.reduceBEq, cond_true, cond_false]) (by rw [HG.out]; exact j4.out) hM.out (by rw [HG.out]; exact fun _ _ h => h) (by rw [HG.out]; exact ⟨fun h => absurd h (by decide), fun h => absurd h (by decide), fun h => absurd h (by decide), fun h => absurd h (by decide), fun _ _ _ _ => E14.out.symm⟩))
    · intro bf ac wv hfb haf hJ K' hK
      obtain ⟨vs, rfl, hM, j4⟩ := hJ
      replace hK := Lib.hid hK
      replace hM := Lib.hid hM
      rw [HG.out] at j4
      simp [Region.binds] at haf
      have e11 := ((j4 11 (by simp [haf])).2.2.2.2 (by decide) (by decide) (by decide) (by decide)).trans E11.out
      have e14 := ((j4 14 (by simp [haf])).2.2.2.2 (by decide) (by decide) (by decide) (by decide)).trans E14.out
      replace j4 := Lib.hid j4
      clear haf hfb
      rw [HLIT.out]
      go_simp
      exact hK.out _ _ (RS.next (wv := wv) (vs := vs) 15 (x := .bool true) (by rw [HLIT.out]; simp only [upv, e11, e14, Nat.reduceBEq, cond_true, cond_false]) (by rw [HG.out]; exact j4.out) hM.out (by rw [HG.out]; exact fun _ _ h => h) (by rw [HG.out]; exact ⟨fun h => absurd h (by decide), fun h => absurd h (by decide), fun h => absurd h (by decide), fun h => absurd h (by decide), fun _ _ _ _ => E15.out.symm⟩))
    · intro bf ac wv hfb haf hJ K' hK
      obtain ⟨vs, rfl, hM, j4⟩ := hJ
      replace hK := Lib.hid hK
      replace hM := Lib.hid hM
      rw [HG.out] at j4
      simp [Region.binds] at haf
      have e15 := ((j4 15 (by simp [haf])).2.2.2.2 (by decide) (by decide) (by decide) (by decide)).trans E15.out
      replace j4 := Lib.hid j4
      clear haf hfb
      rw [HLIT.out]
      go_simp
      exact hK.out _ _ (RS.next (wv := wv) (vs := vs) 16 (x := .bool true) (by rw [HLIT.out]; simp only [upv, e15, Nat.reduceBEq, cond_true, cond_false]) (by rw [HG.out]; exact j4.out) hM.out (by rw [HG.out]; exact fun _ _ h => h) (by rw [HG.out]; exact ⟨fun h => absurd h (by decide), fun h => absurd h (by decide), fun h => absurd h (by decide), fun h => absurd h (by decide), fun _ _ _ _ => E16.out.symm⟩))
    · intro bf ac wv hfb haf hJ K' hK
      obtain ⟨vs, rfl, hM, j4⟩ := hJ
      replace hK := Lib.hid hK
      replace hM := Lib.hid hM
      rw [HG.out] at j4
      simp [Region.binds] at haf
      have e16 := ((j4 16 (by simp [haf])).2.2.2.2 (by decide) (by decide) (by decide) (by decide)).trans E16.out
      replace j4 := Lib.hid j4
      clear haf hfb
      rw [HLIT.out]
      go_simp
      exact hK.out _ _ (RS.next (wv := wv) (vs := vs) 17 (x := .bool ok) (by rw [HLIT.out]; simp only [upv, e16, Nat.reduceBEq, cond_true, cond_false]) (by rw [HG.out]; exact j4.out) hM.out (by rw [HG.out]; exact fun _ _ h => h) (by rw [HG.out]; exact ⟨fun h => absurd h (by decide), fun h => absurd h (by decide), fun h => absurd h (by decide), fun h => absurd h (by decide), fun _ _ _ _ => E17.out.symm⟩))
    · intro bf ac wv hfb haf hJ K' hK
      obtain ⟨vs, rfl, hM, j4⟩ := hJ
      replace hK := Lib.hid hK
      replace hM := Lib.hid hM
      rw [HG.out] at j4
      simp [Region.binds] at haf
      have e16 := ((j4 16 (by simp [haf])).2.2.2.2 (by decide) (by decide) (by decide) (by decide)).trans E16.out
      replace j4 := Lib.hid j4
      clear haf hfb
      rw [HLIT.out]
      go_simp
      exact hK.out _ _ (RS.next (wv := wv) (vs := vs) 18 (x := .bool ok) (by rw [HLIT.out]; simp only [upv, e16, Nat.reduceBEq, cond_true, cond_false]) (by rw [HG.out]; exact j4.out) hM.out (by rw [HG.out]; exact fun _ _ h => h) (by rw [HG.out]; exact ⟨fun h => absurd h (by decide), fun h => absurd h (by decide), fun h => absurd h (by decide), fun h => absurd h (by decide), fun _ _ _ _ => E18.out.symm⟩))
    · intro bf ac wv hfb haf hJ K' hK
      obtain ⟨vs, rfl, hM, j4⟩ := hJ
      replace hK := Lib.hid hK
      replace hM := Lib.hid hM
      rw [HG.out] at j4
      simp [Region.binds] at haf
      have e16 := ((j4 16 (by simp [haf])).2.2.2.2 (by decide) (by decide) (by decide) (by decide)).trans E16.out
      have e17 := ((j4 17 (by simp [haf])).2.2.2.2 (by decide) (by decide) (by decide) (by decide)).trans E17.out
      have e18 := ((j4 18 (by simp [haf])).2.2.2.2 (by decide) (by decide) (by decide) (by decide)).trans E18.out
      replace j4 := Lib.hid j4
      clear haf hfb
      rw [HLIT.out]
      go_simp
      exact hK.out _ _ (RS.next (wv := wv) (vs := vs) 19 (x := .bool true) (by rw [HLIT.out]; simp only [upv, e16, e17, e18, Nat.reduceBEq, cond_true, cond_false]) (by rw [HG.out]; exact j4.out) hM.out (by rw [HG.out]; exact fun _ _ h => h) (by rw [HG.out]; exact ⟨fun h => absurd h (by decide), fun h => absurd h (by decide), fun h => absurd h (by decide), fun h => absurd h (by decide), fun _ _ _ _ => E19.out.symm⟩))
    · intro bf ac wv hfb haf hJ K' hK
      obtain ⟨vs, rfl, hM, j4⟩ := hJ
      replace hK := Lib.hid hK
      replace hM := Lib.hid hM
      rw [HG.out] at j4
      simp [Region.binds] at haf
      have e16 := ((j4 16 (by simp [haf])).2.2.2.2 (by decide) (by decide) (by decide) (by decide)).trans E16.out
      have e19 := ((j4 19 (by simp [haf])).2.2.2.2 (by decide) (by decide) (by decide) (by decide)).trans E19.out
      replace j4 := Lib.hid j4
      clear haf hfb
      rw [HLIT.out]
      go_simp
      exact hK.out _ _ (RS.next (wv := wv) (vs := vs) 20 (x := .bool true) (by rw [HLIT.out]; simp only [upv, e16, e19, Nat.reduceBEq, cond_true, cond_false]) (by rw [HG.out]; exact j4.out) hM.out (by rw [HG.out]; exact fun _ _ h => h) (by rw [HG.out]; exact ⟨fun h => absurd h (by decide), fun h => absurd h (by decide), fun h => absurd h (by decide), fun h => absurd h (by decide), fun _ _ _ _ => E20.out.symm⟩))
    · intro bf ac wv hfb haf hJ K' hK
      obtain ⟨vs, rfl, hM, j4⟩ := hJ
      replace hK := Lib.hid hK
      replace hM := Lib.hid hM
      rw [HG.out] at j4
      simp [Region.binds] at haf
      have e20 := ((j4 20 (by simp [haf])).2.2.2.2 (by decide) (by decide) (by decide) (by decide)).trans E20.out
      replace j4 := Lib.hid j4
      clear haf hfb
      rw [HLIT.out]
      go_simp
      exact hK.out _ _ (RS.next (wv := wv) (vs := vs) 21 (x := .bool true) (by rw [HLIT.out]; simp only [upv, e20, Nat.reduceBEq, cond_true, cond_false]) (by rw [HG.out]; exact j4.out) hM.out (by rw [HG.out]; exact fun _ _ h => h) (by rw [HG.out]; exact ⟨fun h => absurd h (by decide), fun h => absurd h (by decide), fun h => absurd h (by decide), fun h => absurd h (by decide), fun _ _ _ _ => E21.out.symm⟩))
    · intro bf ac wv hfb haf hJ K' hK
      obtain ⟨vs, rfl, hM, j4⟩ := hJ
      replace hK := Lib.hid hK
      replace hM := Lib.hid hM
      rw [HG.out] at j4
      simp [Region.binds] at haf
      have e21 := ((j4 21 (by simp [haf])).2.2.2.2 (by decide) (by decide) (by decide) (by decide)).trans E21.out
      replace j4 := Lib.hid j4
      clear haf hfb
      have xC0 := (H87.out.step hM.out).c 0 rfl
      have xC1 := (H87.out.step hM.out).c 1 rfl
      have xC2 := (H87.out.step hM.out).c 2 rfl
      have xC3 := (H87.out.step hM.out).c 3 rfl
      have xC4 := (H87.out.step hM.out).c 4 rfl
      have xCz := (H87.out.step hM.out).2.2
      rw [HLIT.out]
      go_simp
      exact hK.out _ _ (RS.next (wv := wv) (vs := vs) 22 (x := .agg #[.int .i64 T, .slice a3 A.length c3, .int .i64 F, .slice v3 l.length d3, .int .i64 D]) (by rw [HLIT.out]; simp only [upv, e21, Nat.reduceBEq, cond_true, cond_false]) (by rw [HG.out]; exact j4.out) hM.out (by rw [HG.out]; exact fun _ _ h => h) (by rw [HG.out]; exact ⟨fun h => absurd h (by decide), fun h => absurd h (by decide), fun h => absurd h (by decide), fun h => absurd h (by decide), fun _ _ _ _ => E22.out.symm⟩))
    · intro bf ac wv hfb haf hJ K' hK
      obtain ⟨vs, rfl, hM, j4⟩ := hJ
      replace hK := Lib.hid hK
      replace hM := Lib.hid hM
      rw [HG.out] at j4
      simp [Region.binds] at haf
      have e21 := ((j4 21 (by simp [haf])).2.2.2.2 (by decide) (by decide) (by decide) (by decide)).trans E21.out
      replace j4 := Lib.hid j4
      clear haf hfb
      have xD0 := (H91.out.step hM.out).c 0 rfl
      have xD1 := (H91.out.step hM.out).c 1 rfl
      have xD2 := (H91.out.step hM.out).c 2 rfl
      have xD3 := (H91.out.step hM.out).c 3 rfl
      have xD4 := (H91.out.step hM.out).c 4 rfl
      have xDz := (H91.out.step hM.out).2.2
      rw [HLIT.out]
      go_simp
      exact hK.out _ _ (RS.next (wv := wv) (vs := vs) 23 (x := .agg #[.int .i64 T, .slice a4 A.length c4, .int .i64 F, .slice v4 l.length d4, .int .i64 D]) (by rw [HLIT.out]; simp only [upv, e21, Nat.reduceBEq, cond_true, cond_false]) (by rw [HG.out]; exact j4.out) hM.out (by rw [HG.out]; exact fun _ _ h => h) (by rw [HG.out]; exact ⟨fun h => absurd h (by decide), fun h => absurd h (by decide), fun h => absurd h (by decide), fun h => absurd h (by decide), fun _ _ _ _ => E23.out.symm⟩))
    · intro bf ac wv hfb haf hJ K' hK
      obtain ⟨vs, rfl, hM, j4⟩ := hJ
      replace hK := Lib.hid hK
      replace hM := Lib.hid hM
      rw [HG.out] at j4
      simp [Region.binds] at haf
      have e21 := ((j4 21 (by simp [haf])).2.2.2.2 (by decide) (by decide) (by decide) (by decide)).trans E21.out
      have e22 := ((j4 22 (by simp [haf])).2.2.2.2 (by decide) (by decide) (by decide) (by decide)).trans E22.out
      have e23 := ((j4 23 (by simp [haf])).2.2.2.2 (by decide) (by decide) (by decide) (by decide)).trans E23.out
      replace j4 := Lib.hid j4
      clear haf hfb
      rw [HLIT.out]
      go_simp
      go_at_call 16
      refine (samer_any T F D A V l.length _ _ _ _ _ _ _ _ _ (H85.out.step hM.out) (H86.out.step hM.out) (H88.out.step hM.out) (H89.out.step hM.out)).mono ?_
      rintro e w4 ⟨rfl, b4⟩
      exact hK.out _ _ (RS.next (wv := wv) (vs := vs) 24 (x := .bool true) (by rw [HLIT.out]; simp only [upv, e21, e22, e23, Nat.reduceBEq, cond_true, cond_false]) (by rw [HG.out]; exact j4.out) (keep2 b4 hM.out) (by rw [HG.out]; exact fun k v h => ⟨fun q => (h.1 q).step b4, fun q => (h.2.1 q).step b4, fun q => (h.2.2.1 q).step b4, fun q => (h.2.2.2.1 q).step b4, h.2.2.2.2⟩) (by rw [HG.out]; exact ⟨fun h => absurd h (by decide), fun h => absurd h (by decide), fun h => absurd h (by decide), fun h => absurd h (by decide), fun _ _ _ _ => E24.out.symm⟩))
    · intro bf ac wv hfb haf hJ K' hK
      obtain ⟨vs, rfl, hM, j4⟩ := hJ
      replace hK := Lib.hid hK
      replace hM := Lib.hid hM
      rw [HG.out] at j4
      simp [Region.binds] at haf
      have e21 := ((j4 21 (by simp [haf])).2.2.2.2 (by decide) (by decide) (by decide) (by decide)).trans E21.out
      have e24 := ((j4 24 (by simp [haf])).2.2.2.2 (by decide) (by decide) (by decide) (by decide)).trans E24.out
      replace j4 := Lib.hid j4
      clear haf hfb
      rw [HLIT.out]
      go_simp
      exact hK.out _ _ (RS.next (wv := wv) (vs := vs) 25 (x := .bool true) (by rw [HLIT.out]; simp only [upv, e21, e24, Nat.reduceBEq, cond_true, cond_false]) (by rw [HG.out]; exact j4.out) hM.out (by rw [HG.out]; exact fun _ _ h => h) (by rw [HG.out]; exact ⟨fun h => absurd h (by decide), fun h => absurd h (by decide), fun h => absurd h (by decide), fun h => absurd h (by decide), fun _ _ _ _ => E25.out.symm⟩))
    · intro bf ac wv hfb haf hJ K' hK
      obtain ⟨vs, rfl, hM, j4⟩ := hJ
      replace hK := Lib.hid hK
      replace hM := Lib.hid hM
      rw [HG.out] at j4
      simp [Region.binds] at haf
      have e25 := ((j4 25 (by simp [haf])).2.2.2.2 (by decide) (by decide) (by decide) (by decide)).trans E25.out
      replace j4 := Lib.hid j4
      clear haf hfb
      rw [HLIT.out]
      go_simp
      exact hK.out _ _ (RS.next (wv := wv) (vs := vs) 26 (x := .bool true) (by rw [HLIT.out]; simp only [upv, e25, Nat.reduceBEq, cond_true, cond_false]) (by rw [HG.out]; exact j4.out) hM.out (by rw [HG.out]; exact fun _ _ h => h) (by rw [HG.out]; exact ⟨fun h => absurd h (by decide), fun h => absurd h (by decide), fun h => absurd h (by decide), fun h => absurd h (by decide), fun _ _ _ _ => E26.out.symm⟩))
    · intro bf ac wv hfb haf hJ K' hK
      obtain ⟨vs, rfl, hM, j4⟩ := hJ
      replace hK := Lib.hid hK
      replace hM := Lib.hid hM
      rw [HG.out] at j4
      simp [Region.binds] at haf
      have e26 := ((j4 26 (by simp [haf])).2.2.2.2 (by decide) (by decide) (by decide) (by decide)).trans E26.out
      replace j4 := Lib.hid j4
      clear haf hfb
      have xS0 := (H78.out.step hM.out).c 0 rfl
      have xS1 := (H78.out.step hM.out).c 1 rfl
      have xSz := (H78.out.step hM.out).2.2
      rw [HLIT.out]
      go_simp
      exact hK.out _ _ (RS.next (wv := wv) (vs := vs) 27 (x := .agg #[.int .i64 nx, .slice xa P.length xc]) (by rw [HLIT.out]; simp only [upv, e26, Nat.reduceBEq, cond_true, cond_false]) (by rw [HG.out]; exact j4.out) hM.out (by rw [HG.out]; exact fun _ _ h => h) (by rw [HG.out]; exact ⟨fun h => absurd h (by decide), fun h => absurd h (by decide), fun h => absurd h (by decide), fun h => absurd h (by decide), fun _ _ _ _ => E27.out.symm⟩))
    · intro bf ac wv hfb haf hJ K' hK
      obtain ⟨vs, rfl, hM, j4⟩ := hJ
      replace hK := Lib.hid hK
      replace hM := Lib.hid hM
      rw [HG.out] at j4
      simp [Region.binds] at haf
      have e26 := ((j4 26 (by simp [haf])).2.2.2.2 (by decide) (by decide) (by decide) (by decide)).trans E26.out
      replace j4 := Lib.hid j4
      clear haf hfb
      rw [HLIT.out]
      go_simp
      exact hK.out _ _ (RS.next (wv := wv) (vs := vs) 28 (x := .pointer (some ⟨(w.heap.size + 1 + 1), 0, none⟩)) (by rw [HLIT.out]; simp only [upv, e26, Nat.reduceBEq, cond_true, cond_false]) (by rw [HG.out]; exact j4.out) hM.out (by rw [HG.out]; exact fun _ _ h => h) (by rw [HG.out]; exact ⟨fun h => absurd h (by decide), fun h => absurd h (by decide), fun h => absurd h (by decide), fun h => absurd h (by decide), fun _ _ _ _ => E28.out.symm⟩))
    · intro bf ac wv hfb haf hJ K' hK
      obtain ⟨vs, rfl, hM, j4⟩ := hJ
      replace hK := Lib.hid hK
      replace hM := Lib.hid hM
      rw [HG.out] at j4
      simp [Region.binds] at haf
      have e26 := ((j4 26 (by simp [haf])).2.2.2.2 (by decide) (by decide) (by decide) (by decide)).trans E26.out
      have e28 := ((j4 28 (by simp [haf])).2.2.2.2 (by decide) (by decide) (by decide) (by decide)).trans E28.out
      replace j4 := Lib.hid j4
      clear haf hfb
      have xO0 := (H80.out.step hM.out).c 0 rfl
      have xOz := (H80.out.step hM.out).2.2
      rw [HLIT.out]
      go_simp
      exact hK.out _ _ (RS.next (wv := wv) (vs := vs) 29 (x := .int .i64 a) (by rw [HLIT.out]; simp only [upv, e26, e28, Nat.reduceBEq, cond_true, cond_false]) (by rw [HG.out]; exact j4.out) hM.out (by rw [HG.out]; exact fun _ _ h => h) (by rw [HG.out]; exact ⟨fun h => absurd h (by decide), fun h => absurd h (by decide), fun h => absurd h (by decide), fun h => absurd h (by decide), fun _ _ _ _ => E29.out.symm⟩))
    · intro bf ac wv hfb haf hJ K' hK
      obtain ⟨vs, rfl, hM, j4⟩ := hJ
      replace hK := Lib.hid hK
      replace hM := Lib.hid hM
      rw [HG.out] at j4
      simp [Region.binds] at haf
      have e26 := ((j4 26 (by simp [haf])).2.2.2.2 (by decide) (by decide) (by decide) (by decide)).trans E26.out
      have e27 := ((j4 27 (by simp [haf])).2.2.2.2 (by decide) (by decide) (by decide) (by decide)).trans E27.out
      have e29 := ((j4 29 (by simp [haf])).2.2.2.2 (by decide) (by decide) (by decide) (by decide)).trans E29.out
      replace j4 := Lib.hid j4
      clear haf hfb
      rw [HLIT.out]
      go_simp
      go_at_call 17
      refine (confirm_any nx a xa xc P r HRR.out _ (HP.out.step (keep2 hM.out HBX.out)) HPL.out.1).mono ?_
      rintro e w4 ⟨uc, ua, rfl, h9, b4⟩
      exact hK.out _ _ (RS.next (wv := wv) (vs := vs) 30 (x := (.agg #[.int .i64 nx, .slice ua (cfL nx a P r).length uc])) (by rw [HLIT.out]; simp only [upv, e26, e27, e29, Nat.reduceBEq, cond_true, cond_false]) (by rw [HG.out]; exact j4.out) (keep2 b4 hM.out) (by rw [HG.out]; exact fun k v h => ⟨fun q => (h.1 q).step b4, fun q => (h.2.1 q).step b4, fun q => (h.2.2.1 q).step b4, fun q => (h.2.2.2.1 q).step b4, h.2.2.2.2⟩) (by rw [HG.out]; exact ⟨fun _ => ⟨uc, ua, rfl, h9⟩, fun h => absurd h (by decide), fun h => absurd h (by decide), fun h => absurd h (by decide), fun h30 => absurd rfl h30⟩))
    · intro bf ac wv hfb haf hJ K' hK
      obtain ⟨vs, rfl, hM, j4⟩ := hJ
      replace hK := Lib.hid hK
      replace hM := Lib.hid hM
      rw [HG.out] at j4
      simp [Region.binds] at haf
      have e26 := ((j4 26 (by simp [haf])).2.2.2.2 (by decide) (by decide) (by decide) (by decide)).trans E26.out
      replace j4 := Lib.hid j4
      clear haf hfb
      have xS0 := (H78.out.step hM.out).c 0 rfl
      have xS1 := (H78.out.step hM.out).c 1 rfl
      have xSz := (H78.out.step hM.out).2.2
      rw [HLIT.out]
      go_simp
      exact hK.out _ _ (RS.next (wv := wv) (vs := vs) 31 (x := .agg #[.int .i64 nx, .slice xa P.length xc]) (by rw [HLIT.out]; simp only [upv, e26, Nat.reduceBEq, cond_true, cond_false]) (by rw [HG.out]; exact j4.out) hM.out (by rw [HG.out]; exact fun _ _ h => h) (by rw [HG.out]; exact ⟨fun h => absurd h (by decide), fun h => absurd h (by decide), fun h => absurd h (by decide), fun h => absurd h (by decide), fun _ _ _ _ => E31.out.symm⟩))
    · intro bf ac wv hfb haf hJ K' hK
      obtain ⟨vs, rfl, hM, j4⟩ := hJ
      replace hK := Lib.hid hK
      replace hM := Lib.hid hM
      rw [HG.out] at j4
      simp [Region.binds] at haf
      have e26 := ((j4 26 (by simp [haf])).2.2.2.2 (by decide) (by decide) (by decide) (by decide)).trans E26.out
      replace j4 := Lib.hid j4
      clear haf hfb
      rw [HLIT.out]
      go_simp
      exact hK.out _ _ (RS.next (wv := wv) (vs := vs) 32 (x := .pointer (some ⟨(w.heap.size + 1 + 1), 0, none⟩)) (by rw [HLIT.out]; simp only [upv, e26, Nat.reduceBEq, cond_true, cond_false]) (by rw [HG.out]; exact j4.out) hM.out (by rw [HG.out]; exact fun _ _ h => h) (by rw [HG.out]; exact ⟨fun h => absurd h (by decide), fun h => absurd h (by decide), fun h => absurd h (by decide), fun h => absurd h (by decide), fun _ _ _ _ => E32.out.symm⟩))
    · intro bf ac wv hfb haf hJ K' hK
      obtain ⟨vs, rfl, hM, j4⟩ := hJ
      replace hK := Lib.hid hK
      replace hM := Lib.hid hM
      rw [HG.out] at j4
      simp [Region.binds] at haf
      have e26 := ((j4 26 (by simp [haf])).2.2.2.2 (by decide) (by decide) (by decide) (by decide)).trans E26.out
      have e32 := ((j4 32 (by simp [haf])).2.2.2.2 (by decide) (by decide) (by decide) (by decide)).trans E32.out
      replace j4 := Lib.hid j4
      clear haf hfb
      have xO0 := (H80.out.step hM.out).c 0 rfl
      have xOz := (H80.out.step hM.out).2.2
      rw [HLIT.out]
      go_simp
      exact hK.out _ _ (RS.next (wv := wv) (vs := vs) 33 (x := .int .i64 a) (by rw [HLIT.out]; simp only [upv, e26, e32, Nat.reduceBEq, cond_true, cond_false]) (by rw [HG.out]; exact j4.out) hM.out (by rw [HG.out]; exact fun _ _ h => h) (by rw [HG.out]; exact ⟨fun h => absurd h (by decide), fun h => absurd h (by decide), fun h => absurd h (by decide), fun h => absurd h (by decide), fun _ _ _ _ => E33.out.symm⟩))
    · intro bf ac wv hfb haf hJ K' hK
      obtain ⟨vs, rfl, hM, j4⟩ := hJ
      replace hK := Lib.hid hK
      replace hM := Lib.hid hM
      rw [HG.out] at j4
      simp [Region.binds] at haf
      have e26 := ((j4 26 (by simp [haf])).2.2.2.2 (by decide) (by decide) (by decide) (by decide)).trans E26.out
      have e31 := ((j4 31 (by simp [haf])).2.2.2.2 (by decide) (by decide) (by decide) (by decide)).trans E31.out
      have e33 := ((j4 33 (by simp [haf])).2.2.2.2 (by decide) (by decide) (by decide) (by decide)).trans E33.out
      replace j4 := Lib.hid j4
      clear haf hfb
      rw [HLIT.out]
      go_simp
      go_at_call 18
      refine (rconfirm_any nx a xa xc P r HRR.out _ (HP.out.step (keep2 hM.out HBX.out)) HPL.out.1).mono ?_
      rintro e w4 ⟨uc, ua, rfl, h9, b4⟩
      exact hK.out _ _ (RS.next (wv := wv) (vs := vs) 34 (x := (.agg #[.int .i64 nx, .slice ua (cfL nx a P r).length uc])) (by rw [HLIT.out]; simp only [upv, e26, e31, e33, Nat.reduceBEq, cond_true, cond_false]) (by rw [HG.out]; exact j4.out) (keep2 b4 hM.out) (by rw [HG.out]; exact fun k v h => ⟨fun q => (h.1 q).step b4, fun q => (h.2.1 q).step b4, fun q => (h.2.2.1 q).step b4, fun q => (h.2.2.2.1 q).step b4, h.2.2.2.2⟩) (by rw [HG.out]; exact ⟨fun h => absurd h (by decide), fun _ => ⟨uc, ua, rfl, h9⟩, fun h => absurd h (by decide), fun h => absurd h (by decide), fun h30 => fun h34 => absurd rfl h34⟩))
    · intro bf ac wv hfb haf hJ K' hK
      obtain ⟨vs, rfl, hM, j4⟩ := hJ
      replace hK := Lib.hid hK
      replace hM := Lib.hid hM
      rw [HG.out] at j4
      simp [Region.binds] at haf
      have e26 := ((j4 26 (by simp [haf])).2.2.2.2 (by decide) (by decide) (by decide) (by decide)).trans E26.out
      have e30 := (j4 30 (by simp [haf])).1 rfl
      have e34 := (j4 34 (by simp [haf])).2.1 rfl
      replace j4 := Lib.hid j4
      clear haf hfb
      obtain ⟨u1c, u1a, e30, h30⟩ := e30
      obtain ⟨u2c, u2a, e34, h34⟩ := e34
      rw [HLIT.out]
      go_simp
      go_at_call 15
      refine (sames_any nx u1a u2a u1c u2c (cfL nx a P r) _ h30 h34).mono ?_
      rintro e w4 ⟨rfl, b4⟩
      exact hK.out _ _ (RS.next (wv := wv) (vs := vs) 35 (x := .bool true) (by rw [HLIT.out]; simp only [upv, e26, e30, e34, Nat.reduceBEq, cond_true, cond_false]) (by rw [HG.out]; exact j4.out) (keep2 b4 hM.out) (by rw [HG.out]; exact fun k v h => ⟨fun q => (h.1 q).step b4, fun q => (h.2.1 q).step b4, fun q => (h.2.2.1 q).step b4, fun q => (h.2.2.2.1 q).step b4, h.2.2.2.2⟩) (by rw [HG.out]; exact ⟨fun h => absurd h (by decide), fun h => absurd h (by decide), fun h => absurd h (by decide), fun h => absurd h (by decide), fun _ _ _ _ => E35.out.symm⟩))
    · intro bf ac wv hfb haf hJ K' hK
      obtain ⟨vs, rfl, hM, j4⟩ := hJ
      replace hK := Lib.hid hK
      replace hM := Lib.hid hM
      rw [HG.out] at j4
      simp [Region.binds] at haf
      have e26 := ((j4 26 (by simp [haf])).2.2.2.2 (by decide) (by decide) (by decide) (by decide)).trans E26.out
      have e35 := ((j4 35 (by simp [haf])).2.2.2.2 (by decide) (by decide) (by decide) (by decide)).trans E35.out
      replace j4 := Lib.hid j4
      clear haf hfb
      rw [HLIT.out]
      go_simp
      exact hK.out _ _ (RS.next (wv := wv) (vs := vs) 36 (x := .bool true) (by rw [HLIT.out]; simp only [upv, e26, e35, Nat.reduceBEq, cond_true, cond_false]) (by rw [HG.out]; exact j4.out) hM.out (by rw [HG.out]; exact fun _ _ h => h) (by rw [HG.out]; exact ⟨fun h => absurd h (by decide), fun h => absurd h (by decide), fun h => absurd h (by decide), fun h => absurd h (by decide), fun _ _ _ _ => E36.out.symm⟩))
    · intro bf ac wv hfb haf hJ K' hK
      obtain ⟨vs, rfl, hM, j4⟩ := hJ
      replace hK := Lib.hid hK
      replace hM := Lib.hid hM
      rw [HG.out] at j4
      simp [Region.binds] at haf
      have e36 := ((j4 36 (by simp [haf])).2.2.2.2 (by decide) (by decide) (by decide) (by decide)).trans E36.out
      replace j4 := Lib.hid j4
      clear haf hfb
      rw [HLIT.out]
      go_simp
      exact hK.out _ _ (RS.next (wv := wv) (vs := vs) 37 (x := .bool true) (by rw [HLIT.out]; simp only [upv, e36, Nat.reduceBEq, cond_true, cond_false]) (by rw [HG.out]; exact j4.out) hM.out (by rw [HG.out]; exact fun _ _ h => h) (by rw [HG.out]; exact ⟨fun h => absurd h (by decide), fun h => absurd h (by decide), fun h => absurd h (by decide), fun h => absurd h (by decide), fun _ _ _ _ => E37.out.symm⟩))
    · intro bf ac wv hfb haf hJ K' hK
      obtain ⟨vs, rfl, hM, j4⟩ := hJ
      replace hK := Lib.hid hK
      replace hM := Lib.hid hM
      rw [HG.out] at j4
      simp [Region.binds] at haf
      have e37 := ((j4 37 (by simp [haf])).2.2.2.2 (by decide) (by decide) (by decide) (by decide)).trans E37.out
      replace j4 := Lib.hid j4
      clear haf hfb
      rw [HLIT.out]
      go_simp
      exact hK.out _ _ (RS.next (wv := wv) (vs := vs) 38 (x := .slice na lv.length nc) (by rw [HLIT.out]; simp only [upv, e37, Nat.reduceBEq, cond_true, cond_false]) (by rw [HG.out]; exact j4.out) hM.out (by rw [HG.out]; exact fun _ _ h => h) (by rw [HG.out]; exact ⟨fun h => absurd h (by decide), fun h => absurd h (by decide), fun h => absurd h (by decide), fun h => absurd h (by decide), fun _ _ _ _ => E38.out.symm⟩))
    · intro bf ac wv hfb haf hJ K' hK
      obtain ⟨vs, rfl, hM, j4⟩ := hJ
      replace hK := Lib.hid hK
      replace hM := Lib.hid hM
      rw [HG.out] at j4
      simp [Region.binds] at haf
      have e37 := ((j4 37 (by simp [haf])).2.2.2.2 (by decide) (by decide) (by decide) (by decide)).trans E37.out
      have e38 := ((j4 38 (by simp [haf])).2.2.2.2 (by decide) (by decide) (by decide) (by decide)).trans E38.out
      replace j4 := Lib.hid j4
      clear haf hfb
      rw [HLIT.out]
      go_simp
      go_at_call 19
      refine (HF1.out _ _ (HN.out.step (keep2 hM.out HBX.out))).mono ?_
      rintro e w4 ⟨rr, rfl, h9, b4⟩
      exact hK.out _ _ (RS.next (wv := wv) (vs := vs) 39 (x := rr) (by rw [HLIT.out]; simp only [upv, e37, e38, Nat.reduceBEq, cond_true, cond_false]) (by rw [HG.out]; exact j4.out) (keep2 b4 hM.out) (by rw [HG.out]; exact fun k v h => ⟨fun q => (h.1 q).step b4, fun q => (h.2.1 q).step b4, fun q => (h.2.2.1 q).step b4, fun q => (h.2.2.2.1 q).step b4, h.2.2.2.2⟩) (by rw [HG.out]; exact ⟨fun h => absurd h (by decide), fun h => absurd h (by decide), fun _ => h9, fun h => absurd h (by decide), fun h30 => fun h34 => fun h39 => absurd rfl h39⟩))
    · intro bf ac wv hfb haf hJ K' hK
      obtain ⟨vs, rfl, hM, j4⟩ := hJ
      replace hK := Lib.hid hK
      replace hM := Lib.hid hM
      rw [HG.out] at j4
      simp [Region.binds] at haf
      have e37 := ((j4 37 (by simp [haf])).2.2.2.2 (by decide) (by decide) (by decide) (by decide)).trans E37.out
      replace j4 := Lib.hid j4
      clear haf hfb
      rw [HLIT.out]
      go_simp
      exact hK.out _ _ (RS.next (wv := wv) (vs := vs) 40 (x := .slice na lv.length nc) (by rw [HLIT.out]; simp only [upv, e37, Nat.reduceBEq, cond_true, cond_false]) (by rw [HG.out]; exact j4.out) hM.out (by rw [HG.out]; exact fun _ _ h => h) (by rw [HG.out]; exact ⟨fun h => absurd h (by decide), fun h => absurd h (by decide), fun h => absurd h (by decide), fun h => absurd h (by decide), fun _ _ _ _ => E40.out.symm⟩))
    · intro bf ac wv hfb haf hJ K' hK
      obtain ⟨vs, rfl, hM, j4⟩ := hJ
      replace hK := Lib.hid hK
      replace hM := Lib.hid hM
      rw [HG.out] at j4
      simp [Region.binds] at haf
      have e37 := ((j4 37 (by simp [haf])).2.2.2.2 (by decide) (by decide) (by decide) (by decide)).trans E37.out
      have e40 := ((j4 40 (by simp [haf])).2.2.2.2 (by decide) (by decide) (by decide) (by decide)).trans E40.out
      replace j4 := Lib.hid j4
      clear haf hfb
      rw [HLIT.out]
      go_simp
      go_at_call 20
      refine (HF2.out _ _ (HN.out.step (keep2 hM.out HBX.out))).mono ?_
      rintro e w4 ⟨rr, rfl, h9, b4⟩
      exact hK.out _ _ (RS.next (wv := wv) (vs := vs) 41 (x := rr) (by rw [HLIT.out]; simp only [upv, e37, e40, Nat.reduceBEq, cond_true, cond_false]) (by rw [HG.out]; exact j4.out) (keep2 b4 hM.out) (by rw [HG.out]; exact fun k v h => ⟨fun q => (h.1 q).step b4, fun q => (h.2.1 q).step b4, fun q => (h.2.2.1 q).step b4, fun q => (h.2.2.2.1 q).step b4, h.2.2.2.2⟩) (by rw [HG.out]; exact ⟨fun h => absurd h (by decide), fun h => absurd h (by decide), fun h => absurd h (by decide), fun _ => h9, fun h30 => fun h34 => fun h39 => fun h41 => absurd rfl h41⟩))
    · intro bf ac wv hfb haf hJ K' hK
      obtain ⟨vs, rfl, hM, j4⟩ := hJ
      replace hK := Lib.hid hK
      replace hM := Lib.hid hM
      rw [HG.out] at j4
      simp [Region.binds] at haf
      have e37 := ((j4 37 (by simp [haf])).2.2.2.2 (by decide) (by decide) (by decide) (by decide)).trans E37.out
      have e39 := (j4 39 (by simp [haf])).2.2.1 rfl
      have e41 := (j4 41 (by simp [haf])).2.2.2.1 rfl
      replace j4 := Lib.hid j4
      clear haf hfb
      obtain ⟨c5, d5, a5, v5, e39, h39, i39⟩ := e39
      obtain ⟨c6, d6, a6, v6, e41, h41, i41⟩ := e41
      rw [HLIT.out]
      go_simp
      go_at_call 16
      refine (samer_any T9 F9 D9 A9 V9 n9 _ _ _ _ _ _ _ _ _ h39 i39 h41 i41).mono ?_
      rintro e w4 ⟨rfl, b4⟩
      exact hK.out _ _ (RS.next (wv := wv) (vs := vs) 42 (x := .bool true) (by rw [HLIT.out]; simp only [upv, e37, e39, e41, Nat.reduceBEq, cond_true, cond_false]) (by rw [HG.out]; exact j4.out) (keep2 b4 hM.out) (by rw [HG.out]; exact fun k v h => ⟨fun q => (h.1 q).step b4, fun q => (h.2.1 q).step b4, fun q => (h.2.2.1 q).step b4, fun q => (h.2.2.2.1 q).step b4, h.2.2.2.2⟩) (by rw [HG.out]; exact ⟨fun h => absurd h (by decide), fun h => absurd h (by decide), fun h => absurd h (by decide), fun h => absurd h (by decide), fun _ _ _ _ => E42.out.symm⟩))
    · intro bf ac wv hfb haf hJ K' hK
      obtain ⟨vs, rfl, hM, j4⟩ := hJ
      replace hK := Lib.hid hK
      replace hM := Lib.hid hM
      rw [HG.out] at j4
      simp [Region.binds] at haf
      have e37 := ((j4 37 (by simp [haf])).2.2.2.2 (by decide) (by decide) (by decide) (by decide)).trans E37.out
      have e42 := ((j4 42 (by simp [haf])).2.2.2.2 (by decide) (by decide) (by decide) (by decide)).trans E42.out
      replace j4 := Lib.hid j4
      clear haf hfb
      rw [HLIT.out]
      go_simp
      exact hK.out _ _ (RS.next (wv := wv) (vs := vs) 43 (x := .bool true) (by rw [HLIT.out]; simp only [upv, e37, e42, Nat.reduceBEq, cond_true, cond_false]) (by rw [HG.out]; exact j4.out) hM.out (by rw [HG.out]; exact fun _ _ h => h) (by rw [HG.out]; exact ⟨fun h => absurd h (by decide), fun h => absurd h (by decide), fun h => absurd h (by decide), fun h => absurd h (by decide), fun _ _ _ _ => E43.out.symm⟩))
    · intro bf ac wv hfb haf hJ K' hK
      obtain ⟨vs, rfl, hM, j4⟩ := hJ
      replace hK := Lib.hid hK
      replace hM := Lib.hid hM
      rw [HG.out] at j4
      simp [Region.binds] at haf
      have e43 := ((j4 43 (by simp [haf])).2.2.2.2 (by decide) (by decide) (by decide) (by decide)).trans E43.out
      replace j4 := Lib.hid j4
      clear haf hfb
      rw [HLIT.out]
      go_simp
      exact hK.out _ _ (RS.next (wv := wv) (vs := vs) 44 (x := .bool true) (by rw [HLIT.out]; simp only [upv, e43, Nat.reduceBEq, cond_true, cond_false]) (by rw [HG.out]; exact j4.out) hM.out (by rw [HG.out]; exact fun _ _ h => h) (by rw [HG.out]; exact ⟨fun h => absurd h (by decide), fun h => absurd h (by decide), fun h => absurd h (by decide), fun h => absurd h (by decide), fun _ _ _ _ => E44.out.symm⟩))
  · intro bf ac wv hall hJ
    obtain ⟨vs, rfl, hM, j4⟩ := hJ
    rw [HG.out] at j4
    have hlast := ((j4 44 (hall 44 (by decide))).2.2.2.2 (by decide) (by decide) (by decide) (by decide)).trans E44.out
    clear j4 hall
    rw [HLIT.out]
    dsimp only
    rw [hlast]
    clear hlast
    go_wp2
    go_ret
    exact ⟨rfl, keep2 hM HBX.out⟩

instance : Inhabited Od := ⟨zO⟩
section
variable {H : Type} {enc : TypeId × Value → H} {w : World} {base : Nat} {sp : Nat → Bool} {held : Bool} {r : Reach} {b0 : Nat} {v : Value} {d : DataW H} {p : List MemPlace}
theorem open_ods {n : Nat} {v : Value} {x : DataW H × List MemPlace} (h : DataW.trod enc Try.prog w base sp held n 22 [v] = some x) : ∃ l, OdsAt w v l := by
  rcases Go.Deep.open_slice Try.underlying22 h with ⟨h0, _⟩ | ⟨a, len, cap, m, k, D, Pl, hv, _, hl, hm, hmm, _, hx⟩
  · simp only [List.cons.injEq, and_true] at h0
    exact ⟨[], by rw [h0]; exact ods_nil w⟩
  · simp only [List.cons.injEq, and_true] at hv
    rw [cells32] at hx
    have hle : len ≤ m := by rw [hmm]; split <;> omega
    obtain ⟨f, hf⟩ := Go.Deep.choose_lt (α := Od) (p := fun i s => w.cells? base (a.add (i * 4)) 4 = some s.cells) (n := len) (fun i hi => by
      obtain ⟨cs', h1, h2⟩ := hx i (by omega)
      obtain ⟨y0, y1, y2, y3, e⟩ := open_od h2
      exact ⟨⟨y0, y1, y2, y3⟩, by rw [h1, e]; rfl⟩)
    refine ⟨(List.range len).map f, some a, cap, by rw [hv]; simp, by simp; omega, by simp; omega, fun hne => ?_⟩
    have hpos : 0 < len := by
      apply Classical.byContradiction; intro h0
      exact hne (by simp; omega)
    have hc := fun i hi => (World.cells?_some (hf i hi)).2.2
    have h00 := hc 0 hpos 0 (by simp)
    rw [Go.Deep.add_add, Nat.zero_mul, Nat.add_zero] at h00
    obtain ⟨b, off, rfl⟩ := plain_of h00
    refine ⟨b, off, rfl, fun i x hi => ?_⟩
    obtain ⟨hlt, rfl⟩ := range_get f len i x hi
    have hj := fun j hj => hc i hlt j hj
    simp only [Go.WideShapes.add_plain] at hj
    have q0 := hj 0 (by simp)
    have q1 := hj 1 (by simp)
    have q2 := hj 2 (by simp)
    have q3 := hj 3 (by simp)
    exact ⟨q0, q1, q2, q3⟩
theorem open_sd {n : Nat} {cs : List Value} {x : DataW H × List MemPlace} (h : DataW.trod enc Try.prog w base sp held n 24 cs = some x) : ∃ (t : Int) (sv : Value) (l : List Od), cs = [.int .i64 t, sv] ∧ OdsAt w sv l := by
  obtain ⟨m, ys, hl, h0, h1⟩ := trod_struct2 Try.underlying24 h
  rw [cells24] at hl
  match cs, hl with
  | [c0, c1], _ =>
    simp only [cells3, cells22, List.drop_zero, List.drop_succ_cons, List.take_succ_cons, List.take_zero] at h0 h1
    obtain ⟨s0, e0, _⟩ := DataW.trod_int Try.underlying3 h0
    obtain ⟨l, hb⟩ := open_ods h1
    simp only [List.cons.injEq, and_true] at e0
    exact ⟨s0, c1, l, by rw [e0], hb⟩
theorem arg_sd (hv : Value.okWide Try.prog w r b0 24 v) (h : DataW.Trod enc Try.prog w base sp held 24 v d p) : ∃ (t : Int) (sv : Value) (l : List Od), v = .agg #[.int .i64 t, sv] ∧ OdsAt w sv l := by
  obtain ⟨cs, rfl, hsz⟩ := okWide_struct Try.underlying24 hv
  obtain ⟨k, h⟩ := h
  obtain ⟨t, sv, l, e, h1⟩ := open_sd h
  refine ⟨t, sv, l, ?_, h1⟩
  congr 1
  exact Array.toList_inj.1 e
end
theorem boolOf (P : Prop) : ∃ r : Bool, r = true ↔ P := by
  by_cases h : P
  · exact ⟨true, fun _ => h, fun _ => rfl⟩
  · exact ⟨false, (fun e => by cases e), fun e => absurd e h⟩
theorem match_any (nx : Int) (xv : Value) (P : List Od) (t f dn : Int) (s u : Value) (L : List Bool) (l : List Int) (a b c d : Int) (v : Value) (lv : List Int) (yf yv yl : Int) (w : World) (hp : OdsAt w xv P) (hs : BosAt w s L) (hc : ∀ a n c, s = .slice a n c → n ≤ c) (hv : IntsAt w u l) (hn : IntsAt w v lv) :
    Calls Try.prog 3 #[.agg #[.int .i64 nx, xv], .agg #[.int .i64 t, s, .int .i64 f, u, .int .i64 dn], .agg #[.int .i64 a, .int .i64 b, .int .i64 c, .int .i64 d], v, .int .i64 yf, .int .i64 yv, .int .i64 yl] w fun e w' => e = .returned (.bool true) ∧ Below w.heap.size w w' := by
  have hp2 := hp
  obtain ⟨xa, xc, rfl, -⟩ := hp2
  have hs2 := hs
  obtain ⟨sa, sc, rfl, -⟩ := hs2
  have hv2 := hv
  obtain ⟨va, vc, rfl, -⟩ := hv2
  have hn2 := hn
  obtain ⟨na, nc, rfl, -⟩ := hn2
  replace hc := hc _ _ _ rfl
  cases hsm : (decide (P.length ≤ 30) && (decide (l.length ≤ 30) && decide (L.length ≤ 30)))
  · exact match_big nx t f dn a b c d yf yv yl xa sa va na xc sc vc nc P L l lv w hp hs hc hv hn hsm
  by_cases hlv : 30 < lv.length
  · exact match_long nx t f dn a b c d yf yv yl xa sa va na xc sc vc nc P L l lv w hp hs hc hv hn hsm hlv
  obtain ⟨NX, LL, er, h1, h2⟩ := send_two nx yf yv yl P
  obtain ⟨T, A, F, V, D, ok, e2, hrw⟩ := rw_total t L f l dn a b c d
  obtain ⟨r, hr⟩ := boolOf (SnP nx P)
  obtain ⟨T9, A9, F9, n9, V9, D9, f1, f2⟩ := fresh_two lv (by omega)
  exact match_go nx t f dn a b c d yf yv yl xa sa va na xc sc vc nc P L l lv w hp hs hc hv hn hsm hlv h1 h2 hrw hr f1 f2
end Go.Proofs.Ytkamkkjijjkfdaa
