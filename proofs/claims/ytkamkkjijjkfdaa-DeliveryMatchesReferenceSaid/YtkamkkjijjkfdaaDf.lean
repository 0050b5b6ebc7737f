/- Delivery: 'Receive'. -/
import Derived.Test.YtkamkkjijjkfdaaDe
import Derived.Test.YtkamkkjijjkfdaaEa
import Derived.Test.YtkamkkjijjkfdaaEb
import Derived.Test.YtkamkkjijjkfdaaEc
import Derived.Test.YtkamkkjijjkfdaaEd
namespace Go.Proofs.Ytkamkkjijjkfdaa
open Go.RowKit

theorem ints_oth {w : World} {aa : Option Addr} {n c b : Nat} {l : List Int} (h : IntsAt w (.slice aa n c) l) (hne : ∀ g o, aa = some ⟨g, o, none⟩ → g ≠ b) (j : Nat) (v : Value) : IntsAt (w.setCell ⟨b, j, none⟩ v) (.slice aa n c) l := by
  obtain ⟨a, cap, hv, hm, hc⟩ := h
  refine ⟨a, cap, hv, hm, fun hl => ?_⟩
  obtain ⟨b1, off, ha, hx⟩ := hc hl
  have hg : aa = a := by simp at hv; exact hv.1
  have hn := hne b1 off (hg.trans ha)
  exact ⟨b1, off, ha, fun i x h => (World.cell?_of_block (a := ⟨b1, off + i, none⟩) (Below.heap_setCell w ⟨b, j, none⟩ v b1 hn)).trans (hx i x h)⟩
theorem row_adr {w : World} {base e s n c : Nat} {a : Option Addr} {m : Nat} {xs : List Value} (h : w.ownsRow base e s (.slice a n c) m xs) : ∀ g o, a = some ⟨g, o, none⟩ → base ≤ g := by
  intro g o ha
  subst ha
  rcases h.2 with ⟨e, -⟩ | ⟨g', cp, cur, e, h1, -⟩
  · cases e
  · cases e; exact h1
theorem row_capn {w : World} {base e s n c : Nat} {a : Option Addr} {xs : List Value} (h : w.ownsRow base e s (.slice a n c) n xs) : n ≤ c := by
  rcases h.2 with ⟨e, h0⟩ | ⟨g, cap, cur, e, h1, h2, h3, h4, -⟩
  · omega
  · cases e; exact h3
/-- What 'receive' leaves of one's own copy. -/
def MidP (wb n : Nat) (va : Option Addr) (vc : Nat) (l : List Int) (T : Int) (A : List Bool) (F : Int) (V : List Int) (D : Int) (ok : Bool) (er : Int) (w1 : World) (e : Ending) (w' : World) : Prop :=
  ∃ (cc : Nat) (aa : Option Addr), e = .returned (.tuple #[.bool ok, .int .i64 er]) ∧ (∀ g o, aa = some ⟨g, o, none⟩ → wb ≤ g) ∧ A.length ≤ cc ∧ Cs w' n #[.int .i64 T, .slice aa A.length cc, .int .i64 F, .slice va l.length vc, .int .i64 D] ∧ BosAt w' (.slice aa A.length cc) A ∧ IntsAt w' (.slice va l.length vc) V ∧ Below wb w1 w'
/-- What 'Receive' returns. -/
def RvP (w : World) (T : Int) (A : List Bool) (F : Int) (nl : Nat) (V : List Int) (D : Int) (ok : Bool) (er : Int) (e : Ending) (w' : World) : Prop :=
  ∃ (cc vc : Nat) (aa va : Option Addr), e = .returned (.tuple #[.agg #[.int .i64 T, .slice aa A.length cc, .int .i64 F, .slice va nl vc, .int .i64 D], .bool ok, .int .i64 er]) ∧ A.length ≤ cc ∧ BosAt w' (.slice aa A.length cc) A ∧ IntsAt w' (.slice va nl vc) V ∧ Below w.heap.size w w' ∧ (∀ g o, aa = some ⟨g, o, none⟩ → w.heap.size ≤ g) ∧ ∀ g o, va = some ⟨g, o, none⟩ → w.heap.size ≤ g
set_option maxRecDepth 100000 in
set_option maxHeartbeats 8000000 in
theorem receive_mid (t f dn : Int) (s v : Value) (L : List Bool) (l : List Int) (a b c d : Int) (w : World) (hs : BosAt w s L) (hv : IntsAt w v l) (hl : L.length ≤ 100000) (h9 : l.length ≤ 100000) (T F D er : Int) (A : List Bool) (V : List Int) (ok : Bool)
    (hmid : ∀ (wb n uc vc : Nat) (ua va : Option Addr) (w1 : World), Cs w1 n #[.int .i64 t, .slice ua L.length uc, .int .i64 f, .slice va l.length vc, .int .i64 dn] → BosAt w1 (.slice ua L.length uc) L → L.length ≤ uc → (∀ g o, ua = some ⟨g, o, none⟩ → wb ≤ g) → w1.ownsRow wb 3 1 (.slice va l.length vc) l.length (l.map (Value.int .i64)) → (∀ g, va = some ⟨g, 0, none⟩ → g ≠ n) → n < w1.heap.size → wb ≤ n →
      Calls Try.prog 33 #[.pointer (some ⟨n, 0, none⟩), .agg #[.int .i64 a, .int .i64 b, .int .i64 c, .int .i64 d]] w1 (MidP wb n va vc l T A F V D ok er w1)) :
    Calls Try.prog 13 #[.agg #[.int .i64 t, s, .int .i64 f, v, .int .i64 dn], .agg #[.int .i64 a, .int .i64 b, .int .i64 c, .int .i64 d]] w (RvP w T A F l.length V D ok er) := by
  have HR0 := Lib.hid (Cs.new ((w.alloc (.cells #[.int .i64 t, s, .int .i64 f, v, .int .i64 dn] 30)).alloc (.cells #[.int .i64 a, .int .i64 b, .int .i64 c, .int .i64 d] 32)) (w.heap.size + 1 + 1) #[.int .i64 0, .slice none 0 0, .int .i64 0, .slice none 0 0, .int .i64 0] 30 (by simp))
  have HO0 := Lib.hid ((Cs.new (w.alloc (.cells #[.int .i64 t, s, .int .i64 f, v, .int .i64 dn] 30)) (w.heap.size + 1) #[.int .i64 a, .int .i64 b, .int .i64 c, .int .i64 d] 32 (by simp)).alloc (.cells #[.int .i64 0, .slice none 0 0, .int .i64 0, .slice none 0 0, .int .i64 0] 30))
  have HB0 := Lib.hid (al3 (w := w) (o1 := .cells #[.int .i64 t, s, .int .i64 f, v, .int .i64 dn] 30) (o2 := .cells #[.int .i64 a, .int .i64 b, .int .i64 c, .int .i64 d] 32) (o3 := .cells #[.int .i64 0, .slice none 0 0, .int .i64 0, .slice none 0 0, .int .i64 0] 30))
  have HS0 := Lib.hid (hs.step HB0.out)
  have HV0 := Lib.hid (hv.step HB0.out)
  have HH := Lib.hid (And.intro hl h9)
  have HMID := Lib.hid hmid
  clear hs hv h9 hl hmid
  go_enter Try.func13, Try.ntmps13
  go_wp2_with fail
  generalize (((w.alloc (.cells #[.int .i64 t, s, .int .i64 f, v, .int .i64 dn] 30)).alloc (.cells #[.int .i64 a, .int .i64 b, .int .i64 c, .int .i64 d] 32)).alloc (.cells #[.int .i64 0, .slice none 0 0, .int .i64 0, .slice none 0 0, .int .i64 0] 30)) = wq at *
  refine (copied_any t f dn s v L l _ HS0.out HV0.out HH.out.1 HH.out.2).mono ?_
  rintro e w1 ⟨n, uc, vc, ua, va, rfl, hn, hc, -, hvn, -, hu, hvr, hb⟩
  have HC1 := Lib.hid hc
  have HU1 := Lib.hid (bos_of_row hu)
  have HUC := Lib.hid (row_capn hu)
  have HUA := Lib.hid (row_adr hu)
  have HV1 := Lib.hid hvr
  have HVA := Lib.hid (row_adr hvr)
  have HVN := Lib.hid hvn
  have HN := Lib.hid hn
  have HR1 := Lib.hid (HR0.out.step hb)
  have HO1 := Lib.hid (HO0.out.step hb)
  have HB1 := Lib.hid (keep2 hb HB0.out)
  have HZ := Lib.hid (show w.heap.size + 1 + 1 < wq.heap.size from HR0.out.2.2)
  have BQ := Lib.hid hb
  clear hc hu hvr hvn hn hb HO0 HS0 HV0
  have o0 : w1.cell? ⟨w.heap.size + 1, 0, none⟩ = some (.int .i64 a) := HO1.out.c 0 rfl
  have o1 : w1.cell? ⟨w.heap.size + 1, 1, none⟩ = some (.int .i64 b) := HO1.out.c 1 rfl
  have o2 : w1.cell? ⟨w.heap.size + 1, 2, none⟩ = some (.int .i64 c) := HO1.out.c 2 rfl
  have o3 : w1.cell? ⟨w.heap.size + 1, 3, none⟩ = some (.int .i64 d) := HO1.out.c 3 rfl
  have oz := HO1.out.2.2
  go_wp2_with fail
  refine (HMID.out wq.heap.size n uc vc ua va _ HC1.out HU1.out HUC.out HUA.out HV1.out HVN.out HC1.out.2.2 HN.out).mono ?_
  rintro e w2 ⟨cc, aa, rfl, hga, hcl, hc, hg, hv, hb⟩
  have HGA := Lib.hid hga
  have HCL := Lib.hid hcl
  have HC2 := Lib.hid hc
  have HG2 := Lib.hid hg
  have HV2 := Lib.hid hv
  have BQ2 := Lib.hid (BQ.out.trans hb)
  have HR2 := Lib.hid (HR0.out.step BQ2.out)
  have HB2 := Lib.hid (keep2 BQ2.out HB0.out)
  clear hc hg hv hb hga hcl o0 o1 o2 o3 oz HR0 HB0 HR1 HO1 HB1 HC1 HU1 HV1 BQ
  have c0 : w2.cell? ⟨n, 0, none⟩ = some (.int .i64 T) := HC2.out.c 0 rfl
  have c1 : w2.cell? ⟨n, 1, none⟩ = some (.slice aa A.length cc) := HC2.out.c 1 rfl
  have c2 : w2.cell? ⟨n, 2, none⟩ = some (.int .i64 F) := HC2.out.c 2 rfl
  have c3 : w2.cell? ⟨n, 3, none⟩ = some (.slice va l.length vc) := HC2.out.c 3 rfl
  have c4 : w2.cell? ⟨n, 4, none⟩ = some (.int .i64 D) := HC2.out.c 4 rfl
  have cz := HC2.out.2.2
  have r0 : w2.cell? ⟨w.heap.size + 1 + 1, 0, none⟩ = some (.int .i64 0) := HR2.out.c 0 rfl
  have r1 : w2.cell? ⟨w.heap.size + 1 + 1, 1, none⟩ = some (.slice none 0 0) := HR2.out.c 1 rfl
  have r2 : w2.cell? ⟨w.heap.size + 1 + 1, 2, none⟩ = some (.int .i64 0) := HR2.out.c 2 rfl
  have r3 : w2.cell? ⟨w.heap.size + 1 + 1, 3, none⟩ = some (.slice none 0 0) := HR2.out.c 3 rfl
  have r4 : w2.cell? ⟨w.heap.size + 1 + 1, 4, none⟩ = some (.int .i64 0) := HR2.out.c 4 rfl
  have q0 := HR2.out.f 0 (by simp)
  have q1 := HR2.out.f 1 (by simp)
  have q2 := HR2.out.f 2 (by simp)
  have q3 := HR2.out.f 3 (by simp)
  have q4 := HR2.out.f 4 (by simp)
  have rz := HR2.out.2.2
  go_wp2_with fail
  have HLE := Lib.hid (show w.heap.size ≤ w.heap.size + 1 + 1 by omega)
  have HGX := Lib.hid (show ∀ g o, aa = some ⟨g, o, none⟩ → w.heap.size ≤ g from fun g o e => by have := HGA.out g o e; have := HZ.out; omega)
  have HVX := Lib.hid (show ∀ g o, va = some ⟨g, o, none⟩ → w.heap.size ≤ g from fun g o e => by have := HVA.out g o e; have := HZ.out; omega)
  have hgn : ∀ g o, aa = some ⟨g, o, none⟩ → g ≠ w.heap.size + 1 + 1 := fun g o e => by have := HGA.out g o e; have := HZ.out; omega
  have hvn : ∀ g o, va = some ⟨g, o, none⟩ → g ≠ w.heap.size + 1 + 1 := fun g o e => by have := HVA.out g o e; have := HZ.out; omega
  refine (fun (h : ∀ W : World, Cs W (w.heap.size + 1 + 1) #[.int .i64 T, .slice aa A.length cc, .int .i64 F, .slice va l.length vc, .int .i64 D] → BosAt W (.slice aa A.length cc) A → IntsAt W (.slice va l.length vc) V → Below w.heap.size w W → bodyPost Try.prog Try.f13 _ Exit.ret _ W) => h _ (Cs.set (Cs.set (Cs.set (Cs.set (Cs.set (HR2.out) 0 (by simp) (.int .i64 T) (vs' := #[.int .i64 T, .slice none 0 0, .int .i64 0, .slice none 0 0, .int .i64 0]) rfl) 1 (by simp) (.slice aa A.length cc) (vs' := #[.int .i64 T, .slice aa A.length cc, .int .i64 0, .slice none 0 0, .int .i64 0]) rfl) 2 (by simp) (.int .i64 F) (vs' := #[.int .i64 T, .slice aa A.length cc, .int .i64 F, .slice none 0 0, .int .i64 0]) rfl) 3 (by simp) (.slice va l.length vc) (vs' := #[.int .i64 T, .slice aa A.length cc, .int .i64 F, .slice va l.length vc, .int .i64 0]) rfl) 4 (by simp) (.int .i64 D) (vs' := #[.int .i64 T, .slice aa A.length cc, .int .i64 F, .slice va l.length vc, .int .i64 D]) rfl) (bos_oth (bos_oth (bos_oth (bos_oth (bos_oth (HG2.out) hgn 0 (.int .i64 T)) hgn 1 (.slice aa A.length cc)) hgn 2 (.int .i64 F)) hgn 3 (.slice va l.length vc)) hgn 4 (.int .i64 D)) (ints_oth (ints_oth (ints_oth (ints_oth (ints_oth (HV2.out) hvn 0 (.int .i64 T)) hvn 1 (.slice aa A.length cc)) hvn 2 (.int .i64 F)) hvn 3 (.slice va l.length vc)) hvn 4 (.int .i64 D)) ((((((HB2.out.setCell (p := ⟨w.heap.size + 1 + 1, 0, none⟩) HLE.out (.int .i64 T)).setCell (p := ⟨w.heap.size + 1 + 1, 1, none⟩) HLE.out (.slice aa A.length cc)).setCell (p := ⟨w.heap.size + 1 + 1, 2, none⟩) HLE.out (.int .i64 F)).setCell (p := ⟨w.heap.size + 1 + 1, 3, none⟩) HLE.out (.slice va l.length vc)).setCell (p := ⟨w.heap.size + 1 + 1, 4, none⟩) HLE.out (.int .i64 D)))) ?_
  intro W hC hO hI hB
  have k0 : W.cell? ⟨w.heap.size + 1 + 1, 0, none⟩ = some (.int .i64 T) := hC.c 0 rfl
  have k1 : W.cell? ⟨w.heap.size + 1 + 1, 1, none⟩ = some (.slice aa A.length cc) := hC.c 1 rfl
  have k2 : W.cell? ⟨w.heap.size + 1 + 1, 2, none⟩ = some (.int .i64 F) := hC.c 2 rfl
  have k3 : W.cell? ⟨w.heap.size + 1 + 1, 3, none⟩ = some (.slice va l.length vc) := hC.c 3 rfl
  have k4 : W.cell? ⟨w.heap.size + 1 + 1, 4, none⟩ = some (.int .i64 D) := hC.c 4 rfl
  exact bodyPost_ret (v := .tuple #[.agg #[.int .i64 T, .slice aa A.length cc, .int .i64 F, .slice va l.length vc, .int .i64 D], .bool ok, .int .i64 er]) (by simp [results, Try.results13, go_sem, k0, k1, k2, k3, k4]) rfl ⟨cc, vc, aa, va, rfl, HCL.out, hO, hI, hB, HGX.out, HVX.out⟩
/-- What 'Receive' does. -/
inductive RW (t : Int) (L : List Bool) (f : Int) (l : List Int) (dn a b c d : Int) : Int → List Bool → Int → List Int → Int → Bool → Int → Prop
  | bad (h : ¬ (orB a b c d = true ∧ rvB f l dn = true ∧ c < l.length ∧ WF t L)) : RW t L f l dn a b c d t L f l dn false 1
  | old (h1 : orB a b c d = true) (h2 : rvB f l dn = true) (h3 : c < l.length) (h4 : WF t L) (h5 : 16 ≤ t - a) : RW t L f l dn a b c d t L f l dn false 16
  | known (h1 : orB a b c d = true) (h2 : rvB f l dn = true) (h3 : c < l.length) (h4 : WF t L) (h5 : a ≤ t) (h6 : t - a < 16) (h7 : L.getD (t - a).toNat false = true) : RW t L f l dn a b c d t L f l dn true 0
  | low (h1 : orB a b c d = true) (h2 : rvB f l dn = true) (h3 : c < l.length) (h4 : WF t L) (h5 : t < a ∨ (t - a < 16 ∧ L.getD (t - a).toNat false = false)) (h6 : b < f) : RW t L f l dn a b c d t L f l dn false 23
  | did (h1 : orB a b c d = true) (h2 : rvB f l dn = true) (h3 : c < l.length) (h4 : WF t L) (h5 : t < a ∨ (t - a < 16 ∧ L.getD (t - a).toNat false = false)) (h6 : f ≤ b) : RW t L f l dn a b c d (accT t L a) (accL t L a) b (l.set c.toNat d) (dn + 1) true 0
theorem rw_total (t : Int) (L : List Bool) (f : Int) (l : List Int) (dn a b c d : Int) : ∃ T A F V D ok er, RW t L f l dn a b c d T A F V D ok er := by
  by_cases h : orB a b c d = true ∧ rvB f l dn = true ∧ c < l.length ∧ WF t L
  · obtain ⟨h1, h2, h3, h4⟩ := h
    by_cases h5 : 16 ≤ t - a
    · exact ⟨_, _, _, _, _, _, _, .old h1 h2 h3 h4 h5⟩
    · by_cases h6 : a ≤ t ∧ L.getD (t - a).toNat false = true
      · exact ⟨_, _, _, _, _, _, _, .known h1 h2 h3 h4 h6.1 (by omega) h6.2⟩
      · have h7 : t < a ∨ (t - a < 16 ∧ L.getD (t - a).toNat false = false) := by
          by_cases h8 : t < a
          · exact .inl h8
          · refine .inr ⟨by omega, ?_⟩
            cases hz : L.getD (t - a).toNat false with
            | false => rfl
            | true => exact absurd ⟨by omega, hz⟩ h6
        by_cases h8 : b < f
        · exact ⟨_, _, _, _, _, _, _, .low h1 h2 h3 h4 h7 h8⟩
        · exact ⟨_, _, _, _, _, _, _, .did h1 h2 h3 h4 h7 (by omega)⟩
  · exact ⟨_, _, _, _, _, _, _, .bad h⟩
theorem acc_old {t : Int} {L : List Bool} {a : Int} (h0 : 0 ≤ a ∧ a ≤ 1000000) (h : 16 ≤ t - a ∨ (a ≤ t ∧ L.getD (t - a).toNat false = true)) : accE t L a = 16 := by
  unfold accE
  rw [if_neg (by omega)]
  rcases h with h | ⟨h1, h2⟩
  · rw [if_neg (by omega), if_pos h]
  · rw [if_neg (by omega)]
    by_cases h3 : 16 ≤ t - a
    · rw [if_pos h3]
    · rw [if_neg h3, if_pos h2]
theorem acc_new {t : Int} {L : List Bool} {a : Int} (h0 : 0 ≤ a ∧ a ≤ 1000000) (h : t < a ∨ (t - a < 16 ∧ L.getD (t - a).toNat false = false)) : accE t L a = 0 := by
  unfold accE
  rw [if_neg (by omega)]
  rcases h with h | ⟨h1, h2⟩
  · rw [if_pos h]
  · by_cases h3 : t < a
    · rw [if_pos h3]
    · rw [if_neg h3, if_neg (by omega), if_neg (by rw [h2]; simp)]
theorem mid_same {wb n uc vc : Nat} {ua va : Option Addr} {w1 w' : World} {t f dn : Int} {L : List Bool} {l : List Int} {ok : Bool} {er : Int} {e : Ending} (hc : Cs w1 n #[.int .i64 t, .slice ua L.length uc, .int .i64 f, .slice va l.length vc, .int .i64 dn]) (hs : BosAt w1 (.slice ua L.length uc) L) (hcap : L.length ≤ uc) (hua : ∀ g o, ua = some ⟨g, o, none⟩ → wb ≤ g)
    (hv : w1.ownsRow wb 3 1 (.slice va l.length vc) l.length (l.map (Value.int .i64))) (hn : n < w1.heap.size) (hwn : wb ≤ n) (h : e = .returned (.tuple #[.bool ok, .int .i64 er]) ∧ Below w1.heap.size w1 w') : MidP wb n va vc l t L f l dn ok er w1 e w' :=
  ⟨uc, ua, h.1, hua, hcap, hc.step h.2, hs.step h.2, (ints_of_row hv).step h.2, h.2.mono (by omega)⟩
set_option maxRecDepth 100000 in
theorem receive_is {t : Int} {L : List Bool} {f : Int} {l : List Int} {dn a b c d T : Int} {A : List Bool} {F : Int} {V : List Int} {D : Int} {ok : Bool} {er : Int} (h : RW t L f l dn a b c d T A F V D ok er) (s v : Value) (w : World) (hs : BosAt w s L) (hv : IntsAt w v l) (hl : L.length ≤ 100000) (h9 : l.length ≤ 100000) :
    Calls Try.prog 13 #[.agg #[.int .i64 t, s, .int .i64 f, v, .int .i64 dn], .agg #[.int .i64 a, .int .i64 b, .int .i64 c, .int .i64 d]] w (RvP w T A F l.length V D ok er) := by
  refine receive_mid t f dn s v L l a b c d w hs hv hl h9 T F D er A V ok fun wb n uc vc ua va w1 hc hs hcap hua hv hvn hn hwn => ?_
  have hm := fun (x : Bool) (y : Int) (e : Ending) (w' : World) q => mid_same (ok := x) (er := y) (e := e) (w' := w') hc hs hcap hua hv hn hwn q
  have hi := ints_of_row hv
  have acc : ∀ (hw : WF t L), ∀ W, BosAt W (.slice ua L.length uc) L → Calls Try.prog 51 #[.agg #[.int .i64 t, .slice ua L.length uc], .int .i64 a] W (AcF W (accT t L a) (accL t L a) (accE t L a)) := fun hw W hb => by
    have e16 := hw.1
    rw [e16] at hb hcap ⊢
    exact accF_wf t ua uc L a W hb hw hcap
  cases h with
  | bad h =>
    cases h1 : orB a b c d
    · exact (recv_order t f dn _ va vc l a b c d n w1 hc hi h1).mono fun e w' q => hm _ _ e w' q
    · cases h2 : rvB f l dn
      · exact (recv_self t f dn _ va vc l a b c d n w1 hc hi h1 h2).mono fun e w' q => hm _ _ e w' q
      · by_cases h3 : c < l.length
        · obtain ⟨x, rfl⟩ := Int.eq_ofNat_of_zero_le (orB_iff h1).2.2.1.1
          exact (recv_win t f dn b d a t 1 x _ L L va vc l n wb w1 hc hs hv h1 h2 (by omega) hvn hn (fun W hb => acf_w0 t ua L.length uc L a W hb rfl hl (wf_no ua uc rfl hcap (fun hw => h ⟨h1, h2, h3, hw⟩))) rfl).mono fun e w' q => hm _ _ e w' q
        · exact (recv_var t f dn _ va vc l a b c d n w1 hc hi h1 h2 (by omega)).mono fun e w' q => hm _ _ e w' q
  | old h1 h2 h3 h4 h5 =>
    obtain ⟨x, rfl⟩ := Int.eq_ofNat_of_zero_le (orB_iff h1).2.2.1.1
    exact (recv_old t f dn b d a _ _ x _ L _ va vc l n wb w1 hc hs hv h1 h2 (by omega) hvn hn (acc h4) (acc_old (orB_iff h1).1 (.inl h5)) ⟨h4.2.1, h4.2.2.1⟩ (by omega)).mono fun e w' q => hm _ _ e w' q
  | known h1 h2 h3 h4 h5 h6 h7 =>
    obtain ⟨x, rfl⟩ := Int.eq_ofNat_of_zero_le (orB_iff h1).2.2.1.1
    exact (recv_known t f dn b d a _ _ x _ L _ va vc l n wb w1 hc hs hv h1 h2 (by omega) hvn hn (acc h4) (acc_old (orB_iff h1).1 (.inr ⟨h5, h7⟩)) ⟨h4.2.1, h4.2.2.1⟩ (by omega)).mono fun e w' q => hm _ _ e w' q
  | low h1 h2 h3 h4 h5 h6 =>
    obtain ⟨x, rfl⟩ := Int.eq_ofNat_of_zero_le (orB_iff h1).2.2.1.1
    exact (recv_low t f dn b d a _ _ x _ L _ va vc l n wb w1 hc hs hv h1 h2 (by omega) hvn hn (acc h4) (acc_new (orB_iff h1).1 h5) h6).mono fun e w' q => hm _ _ e w' q
  | did h1 h2 h3 h4 h5 h6 =>
    obtain ⟨x, rfl⟩ := Int.eq_ofNat_of_zero_le (orB_iff h1).2.2.1.1
    refine (recv_do t f dn b d a _ _ x _ L _ va vc l n wb w1 hc hs hv h1 h2 (by omega) hvn hn (acc h4) (acc_new (orB_iff h1).1 h5) h6).mono ?_
    rintro e w' ⟨he, cc, aa, q1, q2, q3, q4, q5, q6⟩
    rw [Nat.min_eq_left hwn] at q6
    exact ⟨cc, aa, he, fun g o e => Nat.le_trans (by omega) (q1 g o e), q2, q3, q4, by rw [Int.toNat_natCast]; exact q5, q6⟩
end Go.Proofs.Ytkamkkjijjkfdaa
