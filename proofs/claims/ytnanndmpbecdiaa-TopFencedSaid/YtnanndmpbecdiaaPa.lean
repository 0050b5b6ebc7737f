import Derived.Test.YtnanndmpbecdiaaEd
import Derived.BigQuiet
import Derived.Test.YtnanndmpbecdiaaLk
import Derived.Test.YtnanndmpbecdiaaLx
namespace Go.Proofs.Ytnanndmpbecdiaa
open Go.RowKit

theorem ints_oth {w : World} {aa : Option Addr} {n c b : Nat} {l : List Int} (h : IntsAt w (.slice aa n c) l) (hne : ∀ g o, aa = some ⟨g, o, none⟩ → g ≠ b) (j : Nat) (v : Value) : IntsAt (w.setCell ⟨b, j, none⟩ v) (.slice aa n c) l := by
  obtain ⟨a, cap, hv, hm, hc⟩ := h
  refine ⟨a, cap, hv, hm, fun hl => ?_⟩
  obtain ⟨b1, off, ha, hx⟩ := hc hl
  have hg : aa = a := by simp at hv; exact hv.1
  have hn := hne b1 off (hg.trans ha)
  exact ⟨b1, off, ha, fun i x h => (World.cell?_of_block (a := ⟨b1, off + i, none⟩) (Below.heap_setCell w ⟨b, j, none⟩ v b1 hn)).trans (hx i x h)⟩
theorem row_adr {w : World} {base e s n c : Nat} {a : Option Addr} {m : Nat} {xs : List Value} (h : w.ownsRow base e s (.slice a n c) m xs) : ∀ g o, a = some ⟨g, o, none⟩ → base ≤ g := by
  intro g o ha
  subst ha
  rcases h.2 with ⟨e, -⟩ | ⟨g', cp, cur, e, h1, -⟩
  · cases e
  · cases e; exact h1
theorem row_capn {w : World} {base e s n c : Nat} {a : Option Addr} {xs : List Value} (h : w.ownsRow base e s (.slice a n c) n xs) : n ≤ c := by
  rcases h.2 with ⟨e, h0⟩ | ⟨g, cap, cur, e, h1, h2, h3, h4, -⟩
  · omega
  · cases e; exact h3
/-- What 'receive' leaves of one's own copy. -/
def MidP (wb n : Nat) (va : Option Addr) (vc : Nat) (l : List Int) (T : Int) (A : List Bool) (F : Int) (V : List Int) (D : Int) (ok : Bool) (er : Int) (w1 : World) (e : Ending) (w' : World) : Prop :=
  ∃ (cc : Nat) (aa : Option Addr), e = .returned (.tuple #[.bool ok, .int .i64 er]) ∧ (∀ g o, aa = some ⟨g, o, none⟩ → wb ≤ g) ∧ A.length ≤ cc ∧ Cs w' n #[.int .i64 T, .slice aa A.length cc, .int .i64 F, .slice va l.length vc, .int .i64 D] ∧ BosAt w' (.slice aa A.length cc) A ∧ IntsAt w' (.slice va l.length vc) V ∧ Below wb w1 w'
/-- What 'Receive' returns. -/
def RvP (w : World) (T : Int) (A : List Bool) (F : Int) (nl : Nat) (V : List Int) (D : Int) (ok : Bool) (er : Int) (e : Ending) (w' : World) : Prop :=
  ∃ (cc vc : Nat) (aa va : Option Addr), e = .returned (.tuple #[.agg #[.int .i64 T, .slice aa A.length cc, .int .i64 F, .slice va nl vc, .int .i64 D], .bool ok, .int .i64 er]) ∧ A.length ≤ cc ∧ BosAt w' (.slice aa A.length cc) A ∧ IntsAt w' (.slice va nl vc) V ∧ Below w.heap.size w w' ∧ (∀ g o, aa = some ⟨g, o, none⟩ → w.heap.size ≤ g) ∧ ∀ g o, va = some ⟨g, o, none⟩ → w.heap.size ≤ g
set_option maxRecDepth 100000 in
set_option maxHeartbeats 8000000 in
theorem receive_mid (t f dn : Int) (s v : Value) (L : List Bool) (l : List Int) (a b c d : Int) (w : World) (hs : BosAt w s L) (hv : IntsAt w v l) (hl : L.length ≤ 100000) (h9 : l.length ≤ 100000) (T F D er : Int) (A : List Bool) (V : List Int) (ok : Bool)
    (hmid : ∀ (wb n uc vc : Nat) (ua va : Option Addr) (w1 : World), Cs w1 n #[.int .i64 t, .slice ua L.length uc, .int .i64 f, .slice va l.length vc, .int .i64 dn] → BosAt w1 (.slice ua L.length uc) L → L.length ≤ uc → (∀ g o, ua = some ⟨g, o, none⟩ → wb ≤ g) → w1.ownsRow wb 3 1 (.slice va l.length vc) l.length (l.map (Value.int .i64)) → (∀ g, va = some ⟨g, 0, none⟩ → g ≠ n) → n < w1.heap.size → wb ≤ n →
      Calls Try.prog 22 #[.pointer (some ⟨n, 0, none⟩), .agg #[.int .i64 a, .int .i64 b, .int .i64 c, .int .i64 d]] w1 (MidP wb n va vc l T A F V D ok er w1)) :
    Calls Try.prog 7 #[.agg #[.int .i64 t, s, .int .i64 f, v, .int .i64 dn], .agg #[.int .i64 a, .int .i64 b, .int .i64 c, .int .i64 d]] w (RvP w T A F l.length V D ok er) := by
  have HR0 := Lib.hid (Cs.new ((w.alloc (.cells #[.int .i64 t, s, .int .i64 f, v, .int .i64 dn] 31)).alloc (.cells #[.int .i64 a, .int .i64 b, .int .i64 c, .int .i64 d] 42)) (w.heap.size + 1 + 1) #[.int .i64 0, .slice none 0 0, .int .i64 0, .slice none 0 0, .int .i64 0] 31 (by simp))
  have HO0 := Lib.hid ((Cs.new (w.alloc (.cells #[.int .i64 t, s, .int .i64 f, v, .int .i64 dn] 31)) (w.heap.size + 1) #[.int .i64 a, .int .i64 b, .int .i64 c, .int .i64 d] 42 (by simp)).alloc (.cells #[.int .i64 0, .slice none 0 0, .int .i64 0, .slice none 0 0, .int .i64 0] 31))
  have HB0 := Lib.hid (al3 (w := w) (o1 := .cells #[.int .i64 t, s, .int .i64 f, v, .int .i64 dn] 31) (o2 := .cells #[.int .i64 a, .int .i64 b, .int .i64 c, .int .i64 d] 42) (o3 := .cells #[.int .i64 0, .slice none 0 0, .int .i64 0, .slice none 0 0, .int .i64 0] 31))
  have HS0 := Lib.hid (hs.step HB0.out)
  have HV0 := Lib.hid (hv.step HB0.out)
  have HH := Lib.hid (And.intro hl h9)
  have HMID := Lib.hid hmid
  clear hs hv h9 hl hmid
  go_enter Try.func7, Try.ntmps7
  go_wp2_with fail
  generalize (((w.alloc (.cells #[.int .i64 t, s, .int .i64 f, v, .int .i64 dn] 31)).alloc (.cells #[.int .i64 a, .int .i64 b, .int .i64 c, .int .i64 d] 42)).alloc (.cells #[.int .i64 0, .slice none 0 0, .int .i64 0, .slice none 0 0, .int .i64 0] 31)) = wq at *
  refine (copied_any t f dn s v L l _ HS0.out HV0.out HH.out.1 HH.out.2).mono ?_
  rintro e w1 ⟨n, uc, vc, ua, va, rfl, hn, hc, -, hvn, -, hu, hvr, hb⟩
  have HC1 := Lib.hid hc
  have HU1 := Lib.hid (bos_of_row hu)
  have HUC := Lib.hid (row_capn hu)
  have HUA := Lib.hid (row_adr hu)
  have HV1 := Lib.hid hvr
  have HVA := Lib.hid (row_adr hvr)
  have HVN := Lib.hid hvn
  have HN := Lib.hid hn
  have HR1 := Lib.hid (HR0.out.step hb)
  have HO1 := Lib.hid (HO0.out.step hb)
  have HB1 := Lib.hid (keep2 hb HB0.out)
  have HZ := Lib.hid (show w.heap.size + 1 + 1 < wq.heap.size from HR0.out.2.2)
  have BQ := Lib.hid hb
  clear hc hu hvr hvn hn hb HO0 HS0 HV0
  have o0 : w1.cell? ⟨w.heap.size + 1, 0, none⟩ = some (.int .i64 a) := HO1.out.c 0 rfl
  have o1 : w1.cell? ⟨w.heap.size + 1, 1, none⟩ = some (.int .i64 b) := HO1.out.c 1 rfl
  have o2 : w1.cell? ⟨w.heap.size + 1, 2, none⟩ = some (.int .i64 c) := HO1.out.c 2 rfl
  have o3 : w1.cell? ⟨w.heap.size + 1, 3, none⟩ = some (.int .i64 d) := HO1.out.c 3 rfl
  have oz := HO1.out.2.2
  go_wp2_with fail
  refine (HMID.out wq.heap.size n uc vc ua va _ HC1.out HU1.out HUC.out HUA.out HV1.out HVN.out HC1.out.2.2 HN.out).mono ?_
  rintro e w2 ⟨cc, aa, rfl, hga, hcl, hc, hg, hv, hb⟩
  have HGA := Lib.hid hga
  have HCL := Lib.hid hcl
  have HC2 := Lib.hid hc
  have HG2 := Lib.hid hg
  have HV2 := Lib.hid hv
  have BQ2 := Lib.hid (BQ.out.trans hb)
  have HR2 := Lib.hid (HR0.out.step BQ2.out)
  have HB2 := Lib.hid (keep2 BQ2.out HB0.out)
  clear hc hg hv hb hga hcl o0 o1 o2 o3 oz HR0 HB0 HR1 HO1 HB1 HC1 HU1 HV1 BQ
  have c0 : w2.cell? ⟨n, 0, none⟩ = some (.int .i64 T) := HC2.out.c 0 rfl
  have c1 : w2.cell? ⟨n, 1, none⟩ = some (.slice aa A.length cc) := HC2.out.c 1 rfl
  have c2 : w2.cell? ⟨n, 2, none⟩ = some (.int .i64 F) := HC2.out.c 2 rfl
  have c3 : w2.cell? ⟨n, 3, none⟩ = some (.slice va l.length vc) := HC2.out.c 3 rfl
  have c4 : w2.cell? ⟨n, 4, none⟩ = some (.int .i64 D) := HC2.out.c 4 rfl
  have cz := HC2.out.2.2
  have r0 : w2.cell? ⟨w.heap.size + 1 + 1, 0, none⟩ = some (.int .i64 0) := HR2.out.c 0 rfl
  have r1 : w2.cell? ⟨w.heap.size + 1 + 1, 1, none⟩ = some (.slice none 0 0) := HR2.out.c 1 rfl
  have r2 : w2.cell? ⟨w.heap.size + 1 + 1, 2, none⟩ = some (.int .i64 0) := HR2.out.c 2 rfl
  have r3 : w2.cell? ⟨w.heap.size + 1 + 1, 3, none⟩ = some (.slice none 0 0) := HR2.out.c 3 rfl
  have r4 : w2.cell? ⟨w.heap.size + 1 + 1, 4, none⟩ = some (.int .i64 0) := HR2.out.c 4 rfl
  have q0 := HR2.out.f 0 (by simp)
  have q1 := HR2.out.f 1 (by simp)
  have q2 := HR2.out.f 2 (by simp)
  have q3 := HR2.out.f 3 (by simp)
  have q4 := HR2.out.f 4 (by simp)
  have rz := HR2.out.2.2
  go_wp2_with fail
  have HLE := Lib.hid (show w.heap.size ≤ w.heap.size + 1 + 1 by omega)
  have HGX := Lib.hid (show ∀ g o, aa = some ⟨g, o, none⟩ → w.heap.size ≤ g from fun g o e => by have := HGA.out g o e; have := HZ.out; omega)
  have HVX := Lib.hid (show ∀ g o, va = some ⟨g, o, none⟩ → w.heap.size ≤ g from fun g o e => by have := HVA.out g o e; have := HZ.out; omega)
  have hgn : ∀ g o, aa = some ⟨g, o, none⟩ → g ≠ w.heap.size + 1 + 1 := fun g o e => by have := HGA.out g o e; have := HZ.out; omega
  have hvn : ∀ g o, va = some ⟨g, o, none⟩ → g ≠ w.heap.size + 1 + 1 := fun g o e => by have := HVA.out g o e; have := HZ.out; omega
  refine (fun (h : ∀ W : World, Cs W (w.heap.size + 1 + 1) #[.int .i64 T, .slice aa A.length cc, .int .i64 F, .slice va l.length vc, .int .i64 D] → BosAt W (.slice aa A.length cc) A → IntsAt W (.slice va l.length vc) V → Below w.heap.size w W → bodyPost Try.prog Try.f7 _ Exit.ret _ W) => h _ (Cs.set (Cs.set (Cs.set (Cs.set (Cs.set (HR2.out) 0 (by simp) (.int .i64 T) (vs' := #[.int .i64 T, .slice none 0 0, .int .i64 0, .slice none 0 0, .int .i64 0]) rfl) 1 (by simp) (.slice aa A.length cc) (vs' := #[.int .i64 T, .slice aa A.length cc, .int .i64 0, .slice none 0 0, .int .i64 0]) rfl) 2 (by simp) (.int .i64 F) (vs' := #[.int .i64 T, .slice aa A.length cc, .int .i64 F, .slice none 0 0, .int .i64 0]) rfl) 3 (by simp) (.slice va l.length vc) (vs' := #[.int .i64 T, .slice aa A.length cc, .int .i64 F, .slice va l.length vc, .int .i64 0]) rfl) 4 (by simp) (.int .i64 D) (vs' := #[.int .i64 T, .slice aa A.length cc, .int .i64 F, .slice va l.length vc, .int .i64 D]) rfl) (bos_oth (bos_oth (bos_oth (bos_oth (bos_oth (HG2.out) hgn 0 (.int .i64 T)) hgn 1 (.slice aa A.length cc)) hgn 2 (.int .i64 F)) hgn 3 (.slice va l.length vc)) hgn 4 (.int .i64 D)) (ints_oth (ints_oth (ints_oth (ints_oth (ints_oth (HV2.out) hvn 0 (.int .i64 T)) hvn 1 (.slice aa A.length cc)) hvn 2 (.int .i64 F)) hvn 3 (.slice va l.length vc)) hvn 4 (.int .i64 D)) ((((((HB2.out.setCell (p := ⟨w.heap.size + 1 + 1, 0, none⟩) HLE.out (.int .i64 T)).setCell (p := ⟨w.heap.size + 1 + 1, 1, none⟩) HLE.out (.slice aa A.length cc)).setCell (p := ⟨w.heap.size + 1 + 1, 2, none⟩) HLE.out (.int .i64 F)).setCell (p := ⟨w.heap.size + 1 + 1, 3, none⟩) HLE.out (.slice va l.length vc)).setCell (p := ⟨w.heap.size + 1 + 1, 4, none⟩) HLE.out (.int .i64 D)))) ?_
  intro W hC hO hI hB
  have k0 : W.cell? ⟨w.heap.size + 1 + 1, 0, none⟩ = some (.int .i64 T) := hC.c 0 rfl
  have k1 : W.cell? ⟨w.heap.size + 1 + 1, 1, none⟩ = some (.slice aa A.length cc) := hC.c 1 rfl
  have k2 : W.cell? ⟨w.heap.size + 1 + 1, 2, none⟩ = some (.int .i64 F) := hC.c 2 rfl
  have k3 : W.cell? ⟨w.heap.size + 1 + 1, 3, none⟩ = some (.slice va l.length vc) := hC.c 3 rfl
  have k4 : W.cell? ⟨w.heap.size + 1 + 1, 4, none⟩ = some (.int .i64 D) := hC.c 4 rfl
  exact bodyPost_ret (v := .tuple #[.agg #[.int .i64 T, .slice aa A.length cc, .int .i64 F, .slice va l.length vc, .int .i64 D], .bool ok, .int .i64 er]) (by simp [results, Try.results7, go_sem, k0, k1, k2, k3, k4]) rfl ⟨cc, vc, aa, va, rfl, HCL.out, hO, hI, hB, HGX.out, HVX.out⟩
/-- What 'Receive' does. -/
inductive RW (t : Int) (L : List Bool) (f : Int) (l : List Int) (dn a b c d : Int) : Int → List Bool → Int → List Int → Int → Bool → Int → Prop
  | bad (h : ¬ (orB a b c d = true ∧ rvB f l dn = true ∧ c < l.length ∧ WF t L)) : RW t L f l dn a b c d t L f l dn false 1
  | old (h1 : orB a b c d = true) (h2 : rvB f l dn = true) (h3 : c < l.length) (h4 : WF t L) (h5 : 16 ≤ t - a) : RW t L f l dn a b c d t L f l dn false 16
  | known (h1 : orB a b c d = true) (h2 : rvB f l dn = true) (h3 : c < l.length) (h4 : WF t L) (h5 : a ≤ t) (h6 : t - a < 16) (h7 : L.getD (t - a).toNat false = true) : RW t L f l dn a b c d t L f l dn true 0
  | low (h1 : orB a b c d = true) (h2 : rvB f l dn = true) (h3 : c < l.length) (h4 : WF t L) (h5 : t < a ∨ (t - a < 16 ∧ L.getD (t - a).toNat false = false)) (h6 : b < f) : RW t L f l dn a b c d t L f l dn false 23
  | did (h1 : orB a b c d = true) (h2 : rvB f l dn = true) (h3 : c < l.length) (h4 : WF t L) (h5 : t < a ∨ (t - a < 16 ∧ L.getD (t - a).toNat false = false)) (h6 : f ≤ b) : RW t L f l dn a b c d (accT t L a) (accL t L a) b (l.set c.toNat d) (dn + 1) true 0
theorem rw_total (t : Int) (L : List Bool) (f : Int) (l : List Int) (dn a b c d : Int) : ∃ T A F V D ok er, RW t L f l dn a b c d T A F V D ok er := by
  by_cases h : orB a b c d = true ∧ rvB f l dn = true ∧ c < l.length ∧ WF t L
  · obtain ⟨h1, h2, h3, h4⟩ := h
    by_cases h5 : 16 ≤ t - a
    · exact ⟨_, _, _, _, _, _, _, .old h1 h2 h3 h4 h5⟩
    · by_cases h6 : a ≤ t ∧ L.getD (t - a).toNat false = true
      · exact ⟨_, _, _, _, _, _, _, .known h1 h2 h3 h4 h6.1 (by omega) h6.2⟩
      · have h7 : t < a ∨ (t - a < 16 ∧ L.getD (t - a).toNat false = false) := by
          by_cases h8 : t < a
          · exact .inl h8
          · refine .inr ⟨by omega, ?_⟩
            cases hz : L.getD (t - a).toNat false with
            | false => rfl
            | true => exact absurd ⟨by omega, hz⟩ h6
        by_cases h8 : b < f
        · exact ⟨_, _, _, _, _, _, _, .low h1 h2 h3 h4 h7 h8⟩
        · exact ⟨_, _, _, _, _, _, _, .did h1 h2 h3 h4 h7 (by omega)⟩
  · exact ⟨_, _, _, _, _, _, _, .bad h⟩
theorem acc_old {t : Int} {L : List Bool} {a : Int} (h0 : 0 ≤ a ∧ a ≤ 1000000) (h : 16 ≤ t - a ∨ (a ≤ t ∧ L.getD (t - a).toNat false = true)) : accE t L a = 16 := by
  unfold accE
  rw [if_neg (by omega)]
  rcases h with h | ⟨h1, h2⟩
  · rw [if_neg (by omega), if_pos h]
  · rw [if_neg (by omega)]
    by_cases h3 : 16 ≤ t - a
    · rw [if_pos h3]
    · rw [if_neg h3, if_pos h2]
theorem acc_new {t : Int} {L : List Bool} {a : Int} (h0 : 0 ≤ a ∧ a ≤ 1000000) (h : t < a ∨ (t - a < 16 ∧ L.getD (t - a).toNat false = false)) : accE t L a = 0 := by
  unfold accE
  rw [if_neg (by omega)]
  rcases h with h | ⟨h1, h2⟩
  · rw [if_pos h]
  · by_cases h3 : t < a
    · rw [if_pos h3]
    · rw [if_neg h3, if_neg (by omega), if_neg (by rw [h2]; simp)]
theorem mid_same {wb n uc vc : Nat} {ua va : Option Addr} {w1 w' : World} {t f dn : Int} {L : List Bool} {l : List Int} {ok : Bool} {er : Int} {e : Ending} (hc : Cs w1 n #[.int .i64 t, .slice ua L.length uc, .int .i64 f, .slice va l.length vc, .int .i64 dn]) (hs : BosAt w1 (.slice ua L.length uc) L) (hcap : L.length ≤ uc) (hua : ∀ g o, ua = some ⟨g, o, none⟩ → wb ≤ g)
    (hv : w1.ownsRow wb 3 1 (.slice va l.length vc) l.length (l.map (Value.int .i64))) (hn : n < w1.heap.size) (hwn : wb ≤ n) (h : e = .returned (.tuple #[.bool ok, .int .i64 er]) ∧ Below w1.heap.size w1 w') : MidP wb n va vc l t L f l dn ok er w1 e w' :=
  ⟨uc, ua, h.1, hua, hcap, hc.step h.2, hs.step h.2, (ints_of_row hv).step h.2, h.2.mono (by omega)⟩
set_option maxRecDepth 100000 in
theorem receive_is {t : Int} {L : List Bool} {f : Int} {l : List Int} {dn a b c d T : Int} {A : List Bool} {F : Int} {V : List Int} {D : Int} {ok : Bool} {er : Int} (h : RW t L f l dn a b c d T A F V D ok er) (s v : Value) (w : World) (hs : BosAt w s L) (hv : IntsAt w v l) (hl : L.length ≤ 100000) (h9 : l.length ≤ 100000) :
    Calls Try.prog 7 #[.agg #[.int .i64 t, s, .int .i64 f, v, .int .i64 dn], .agg #[.int .i64 a, .int .i64 b, .int .i64 c, .int .i64 d]] w (RvP w T A F l.length V D ok er) := by
  refine receive_mid t f dn s v L l a b c d w hs hv hl h9 T F D er A V ok fun wb n uc vc ua va w1 hc hs hcap hua hv hvn hn hwn => ?_
  have hm := fun (x : Bool) (y : Int) (e : Ending) (w' : World) q => mid_same (ok := x) (er := y) (e := e) (w' := w') hc hs hcap hua hv hn hwn q
  have hi := ints_of_row hv
  have acc : ∀ (hw : WF t L), ∀ W, BosAt W (.slice ua L.length uc) L → Calls Try.prog 34 #[.agg #[.int .i64 t, .slice ua L.length uc], .int .i64 a] W (AcF W (accT t L a) (accL t L a) (accE t L a)) := fun hw W hb => by
    have e16 := hw.1
    rw [e16] at hb hcap ⊢
    exact accF_wf t ua uc L a W hb hw hcap
  cases h with
  | bad h =>
    cases h1 : orB a b c d
    · exact (recv_order t f dn _ va vc l a b c d n w1 hc hi h1).mono fun e w' q => hm _ _ e w' q
    · cases h2 : rvB f l dn
      · exact (recv_self t f dn _ va vc l a b c d n w1 hc hi h1 h2).mono fun e w' q => hm _ _ e w' q
      · by_cases h3 : c < l.length
        · obtain ⟨x, rfl⟩ := Int.eq_ofNat_of_zero_le (orB_iff h1).2.2.1.1
          exact (recv_win t f dn b d a t 1 x _ L L va vc l n wb w1 hc hs hv h1 h2 (by omega) hvn hn (fun W hb => acf_w0 t ua L.length uc L a W hb rfl hl (wf_no ua uc rfl hcap (fun hw => h ⟨h1, h2, h3, hw⟩))) rfl).mono fun e w' q => hm _ _ e w' q
        · exact (recv_var t f dn _ va vc l a b c d n w1 hc hi h1 h2 (by omega)).mono fun e w' q => hm _ _ e w' q
  | old h1 h2 h3 h4 h5 =>
    obtain ⟨x, rfl⟩ := Int.eq_ofNat_of_zero_le (orB_iff h1).2.2.1.1
    exact (recv_old t f dn b d a _ _ x _ L _ va vc l n wb w1 hc hs hv h1 h2 (by omega) hvn hn (acc h4) (acc_old (orB_iff h1).1 (.inl h5)) ⟨h4.2.1, h4.2.2.1⟩ (by omega)).mono fun e w' q => hm _ _ e w' q
  | known h1 h2 h3 h4 h5 h6 h7 =>
    obtain ⟨x, rfl⟩ := Int.eq_ofNat_of_zero_le (orB_iff h1).2.2.1.1
    exact (recv_known t f dn b d a _ _ x _ L _ va vc l n wb w1 hc hs hv h1 h2 (by omega) hvn hn (acc h4) (acc_old (orB_iff h1).1 (.inr ⟨h5, h7⟩)) ⟨h4.2.1, h4.2.2.1⟩ (by omega)).mono fun e w' q => hm _ _ e w' q
  | low h1 h2 h3 h4 h5 h6 =>
    obtain ⟨x, rfl⟩ := Int.eq_ofNat_of_zero_le (orB_iff h1).2.2.1.1
    exact (recv_low t f dn b d a _ _ x _ L _ va vc l n wb w1 hc hs hv h1 h2 (by omega) hvn hn (acc h4) (acc_new (orB_iff h1).1 h5) h6).mono fun e w' q => hm _ _ e w' q
  | did h1 h2 h3 h4 h5 h6 =>
    obtain ⟨x, rfl⟩ := Int.eq_ofNat_of_zero_le (orB_iff h1).2.2.1.1
    refine (recv_do t f dn b d a _ _ x _ L _ va vc l n wb w1 hc hs hv h1 h2 (by omega) hvn hn (acc h4) (acc_new (orB_iff h1).1 h5) h6).mono ?_
    rintro e w' ⟨he, cc, aa, q1, q2, q3, q4, q5, q6⟩
    rw [Nat.min_eq_left hwn] at q6
    exact ⟨cc, aa, he, fun g o e => Nat.le_trans (by omega) (q1 g o e), q2, q3, q4, by rw [Int.toNat_natCast]; exact q5, q6⟩
open Go.RowKit

set_option maxRecDepth 100000 in
set_option maxHeartbeats 8000000 in
theorem newrc_ok (v : Value) (l : List Int) (hv : vaB l = true) (w : World) (h : IntsAt w v l) (h9 : l.length ≤ 100000) :
    Calls Try.prog 5 #[v] w fun e w' => ∃ (cc vc : Nat) (aa va : Option Addr), e = .returned (.agg #[.int .i64 (-1), .slice aa 16 cc, .int .i64 0, .slice va l.length vc, .int .i64 0]) ∧ 16 ≤ cc ∧ BosAt w' (.slice aa 16 cc) (List.replicate 16 false) ∧ IntsAt w' (.slice va l.length vc) l ∧ Below w.heap.size w w' ∧ (∀ g o, aa = some ⟨g, o, none⟩ → w.heap.size ≤ g) ∧ ∀ g o, va = some ⟨g, o, none⟩ → w.heap.size ≤ g := by
  have HR0 := Lib.hid (Cs.new w w.heap.size #[.int .i64 0, .slice none 0 0, .int .i64 0, .slice none 0 0, .int .i64 0] 31 rfl)
  have HB0 := Lib.hid (al w (.cells #[.int .i64 0, .slice none 0 0, .int .i64 0, .slice none 0 0, .int .i64 0] 31))
  have HV0 := Lib.hid (h.step HB0.out)
  have HV := Lib.hid hv
  have H9 := Lib.hid h9
  clear h hv h9
  go_enter Try.func5, Try.ntmps5
  go_wp2_with fail
  refine (areValues_any v l _ HV0.out).mono ?_
  rintro e w1 ⟨rfl, b1⟩
  rw [HV.out]
  have HR1 := Lib.hid (HR0.out.step b1)
  have HB1 := Lib.hid (keep2 b1 HB0.out)
  have HV1 := Lib.hid (HV0.out.step b1)
  have HR1z := Lib.hid HR1.out.2.2
  clear b1 HR0 HB0 HV0
  go_wp2_with fail
  refine (fresh1_any _).mono ?_
  rintro e w2 ⟨s, rfl, r2, b2⟩
  obtain ⟨aa, cc, rfl⟩ := row_slice r2
  have HR2 := Lib.hid (HR1.out.step b2)
  have HB2 := Lib.hid (keep2 b2 HB1.out)
  have HV2 := Lib.hid (HV1.out.step b2)
  have HW2 := Lib.hid r2
  have b2s := Lib.hid b2.size
  clear b2 HR1 HB1 HV1 r2
  go_wp2_with fail
  refine (in_clone v l _ HV2.out H9.out).mono ?_
  rintro e w3 ⟨u, rfl, r3, b3⟩
  obtain ⟨va, vc, rfl⟩ := row_slice r3
  have HR3 := Lib.hid (HR2.out.step b3)
  have HB3 := Lib.hid (keep2 b3 HB2.out)
  have HW3 := Lib.hid (row_step HW2.out b3)
  have HV3 := Lib.hid (ints_of_row r3)
  have HA1 := Lib.hid (row_adr HW3.out)
  have HA2 := Lib.hid (row_adr r3)
  have HZ1 := Lib.hid (show w.heap.size < w1.heap.size from HR1z.out)
  have HZ2 := Lib.hid (show w.heap.size < w2.heap.size from Nat.lt_of_lt_of_le HR1z.out b2s.out)
  clear b3 HR2 HB2 HV2 HW2 r3
  have r0 := HR3.out.c 0 rfl
  have r1 := HR3.out.c 1 rfl
  have r2 := HR3.out.c 2 rfl
  have r3 := HR3.out.c 3 rfl
  have r4 := HR3.out.c 4 rfl
  have f0 := HR3.out.f 0 (by simp)
  have f1 := HR3.out.f 1 (by simp)
  have f2 := HR3.out.f 2 (by simp)
  have f3 := HR3.out.f 3 (by simp)
  have f4 := HR3.out.f 4 (by simp)
  have rz := HR3.out.2.2
  go_wp2_with fail
  have hg1 : ∀ g o, aa = some ⟨g, o, none⟩ → g ≠ w.heap.size := fun g o e => by have := HA1.out g o e; have := HZ1.out; omega
  have hg2 : ∀ g o, va = some ⟨g, o, none⟩ → g ≠ w.heap.size := fun g o e => by have := HA2.out g o e; have := HZ2.out; omega
  have HBA := Lib.hid (show BosAt w3 (.slice aa 16 cc) (List.replicate 16 false) from bos_of_row (xs := List.replicate 16 false) HW3.out)
  refine (fun (h : ∀ V : World, Cs V w.heap.size #[.int .i64 (-1), .slice aa 16 cc, .int .i64 0, .slice va l.length vc, .int .i64 0] → BosAt V (.slice aa 16 cc) (List.replicate 16 false) → IntsAt V (.slice va l.length vc) l → Below w.heap.size w V → bodyPost Try.prog Try.f5 _ Exit.ret _ V) => h _ (Cs.set (Cs.set (Cs.set (Cs.set (Cs.set (HR3.out) 0 (by simp) (.int .i64 (-1)) (vs' := #[.int .i64 (-1), .slice none 0 0, .int .i64 0, .slice none 0 0, .int .i64 0]) rfl) 1 (by simp) (.slice aa 16 cc) (vs' := #[.int .i64 (-1), .slice aa 16 cc, .int .i64 0, .slice none 0 0, .int .i64 0]) rfl) 2 (by simp) (.int .i64 0) (vs' := #[.int .i64 (-1), .slice aa 16 cc, .int .i64 0, .slice none 0 0, .int .i64 0]) rfl) 3 (by simp) (.slice va l.length vc) (vs' := #[.int .i64 (-1), .slice aa 16 cc, .int .i64 0, .slice va l.length vc, .int .i64 0]) rfl) 4 (by simp) (.int .i64 0) (vs' := #[.int .i64 (-1), .slice aa 16 cc, .int .i64 0, .slice va l.length vc, .int .i64 0]) rfl) (bos_oth (bos_oth (bos_oth (bos_oth (bos_oth (HBA.out) hg1 0 _) hg1 1 _) hg1 2 _) hg1 3 _) hg1 4 _) (ints_oth (ints_oth (ints_oth (ints_oth (ints_oth (HV3.out) hg2 0 _) hg2 1 _) hg2 2 _) hg2 3 _) hg2 4 _) ((((((HB3.out).setCell (p := ⟨w.heap.size, 0, none⟩) (Nat.le_refl _) _).setCell (p := ⟨w.heap.size, 1, none⟩) (Nat.le_refl _) _).setCell (p := ⟨w.heap.size, 2, none⟩) (Nat.le_refl _) _).setCell (p := ⟨w.heap.size, 3, none⟩) (Nat.le_refl _) _).setCell (p := ⟨w.heap.size, 4, none⟩) (Nat.le_refl _) _)) ?_
  intro V hC hB hI hW
  have k0 : V.cell? ⟨w.heap.size, 0, none⟩ = some (.int .i64 (-1)) := hC.c 0 rfl
  have k1 : V.cell? ⟨w.heap.size, 1, none⟩ = some (.slice aa 16 cc) := hC.c 1 rfl
  have k2 : V.cell? ⟨w.heap.size, 2, none⟩ = some (.int .i64 0) := hC.c 2 rfl
  have k3 : V.cell? ⟨w.heap.size, 3, none⟩ = some (.slice va l.length vc) := hC.c 3 rfl
  have k4 : V.cell? ⟨w.heap.size, 4, none⟩ = some (.int .i64 0) := hC.c 4 rfl
  exact bodyPost_ret (v := .agg #[.int .i64 (-1), .slice aa 16 cc, .int .i64 0, .slice va l.length vc, .int .i64 0]) (by simp [results, Try.results5, go_sem, k0, k1, k2, k3, k4]) rfl ⟨cc, vc, aa, va, rfl, row_capn HW3.out, hB, hI, hW, fun g o e => by have := HA1.out g o e; have := HZ1.out; omega, fun g o e => by have := HA2.out g o e; have := HZ2.out; omega⟩

/-- A lease. -/
structure Ls where
  h : Int
  f : Int
  u : Int
/-- What the turns keep: each hub's last lease is one that was got. -/
structure TI (i : Nat) (L : List Vo) (G : List Go1) (now : Int) (S : Nat → Ls) : Prop where
  inv : Inv 3 i L G now
  tn : ∀ j, j < G.length → (G.getD j zG).t ≤ now
  ls : ∀ k : Nat, k < 3 → (S k).f = 0 ∨ ∃ j, j < G.length ∧ (G.getD j zG).h = (k : Int) ∧ (G.getD j zG).u = (S k).u
theorem TI.start : TI 0 (List.replicate 3 zV) [] 0 (fun _ => ⟨0, 0, 0⟩) :=
  ⟨Inv.start 3, fun j hj => by simp at hj, fun k _ => .inl rfl⟩
theorem TI.wait {i : Nat} {L : List Vo} {G : List Go1} {now d : Int} {S : Nat → Ls} (I : TI i L G now S) (d1 : 0 ≤ d) (d2 : d ≤ 255) : TI (i + 1) L G (now + d) S :=
  ⟨I.inv.wait d1 (by omega), fun j hj => by have := I.tn j hj; omega, I.ls⟩
theorem TI.vote {i k : Nat} {L V : List Vo} {G : List Go1} {now n2 : Int} {S : Nat → Ls} (I : TI i L G now S) (J : Inv 3 k V G n2) (hn : now ≤ n2) : TI k V G n2 S :=
  ⟨J, fun j hj => by have := I.tn j hj; omega, I.ls⟩
theorem TI.got {i k : Nat} {L V : List Vo} {G : List Go1} {now n2 h f u : Int} {S : Nat → Ls} (I : TI i L G now S) {kh : Nat} (hh : h = (kh : Int)) (J : Inv 3 k V (G ++ [⟨h, f, u, n2⟩]) n2) (hn : now ≤ n2) : TI k V (G ++ [⟨h, f, u, n2⟩]) n2 (fun j => if j = kh then ⟨h, f, u⟩ else S j) := by
  have hl : (G ++ [(⟨h, f, u, n2⟩ : Go1)]).length = G.length + 1 := by simp
  refine ⟨J, fun j hj => ?_, fun k hk => ?_⟩
  · by_cases e : j < G.length
    · rw [getD_app_l e]; have := I.tn j e; omega
    · obtain rfl : j = G.length := by omega
      rw [getD_app_len]; exact Int.le_refl _
  · by_cases e : k = kh
    · subst e
      rw [if_pos rfl]
      exact .inr ⟨G.length, by omega, by rw [getD_app_len]; exact hh, by rw [getD_app_len]⟩
    · rw [if_neg e]
      rcases I.ls k hk with q | ⟨j, hj, h1, h2⟩
      · exact .inl q
      · exact .inr ⟨j, by omega, by rw [getD_app_l hj]; exact h1, by rw [getD_app_l hj]; exact h2⟩
theorem ho_f {f u now : Int} (h : hoB f u now = true) : 0 < f ∧ now < u := by
  unfold hoB at h
  rw [Bool.and_eq_true, Bool.and_eq_true, decide_eq_true_eq, decide_eq_true_eq] at h
  exact ⟨h.1.1, h.2⟩
theorem TI.one {i : Nat} {L : List Vo} {G : List Go1} {now : Int} {S : Nat → Ls} (I : TI i L G now S) {a b : Nat} (ha : a < 3) (hb : b < 3) (hab : a ≠ b) (h1 : hoB (S a).f (S a).u now = true) (h2 : hoB (S b).f (S b).u now = true) : False := by
  obtain ⟨f1, u1⟩ := ho_f h1
  obtain ⟨f2, u2⟩ := ho_f h2
  rcases I.ls a ha with q | ⟨j1, hj1, e1, e2⟩
  · omega
  rcases I.ls b hb with q | ⟨j2, hj2, e3, e4⟩
  · omega
  rcases Nat.lt_trichotomy j1 j2 with q | q | q
  · have := (I.inv.pair j1 j2 q hj2).2 (by rw [e1, e3]; omega)
    have := I.tn j2 hj2
    omega
  · subst q; rw [e1] at e3; omega
  · have := (I.inv.pair j2 j1 q hj1).2 (by rw [e1, e3]; omega)
    have := I.tn j1 hj1
    omega
/-- How many hubs hold a lease. -/
def hn (S : Nat → Ls) (now : Int) : Nat → Nat
  | 0 => 0
  | k + 1 => hn S now k + if hoB (S k).f (S k).u now = true then 1 else 0
theorem hn_le (S : Nat → Ls) (now : Int) : ∀ k, hn S now k ≤ k
  | 0 => Nat.le_refl _
  | k + 1 => by
    have := hn_le S now k
    rw [hn]
    split <;> omega
theorem TI.few {i : Nat} {L : List Vo} {G : List Go1} {now : Int} {S : Nat → Ls} (I : TI i L G now S) : hn S now 3 ≤ 1 := by
  have a01 := fun x y => I.one (a := 0) (b := 1) (by omega) (by omega) (by omega) x y
  have a02 := fun x y => I.one (a := 0) (b := 2) (by omega) (by omega) (by omega) x y
  have a12 := fun x y => I.one (a := 1) (b := 2) (by omega) (by omega) (by omega) x y
  unfold hn hn hn hn
  by_cases h0 : hoB (S 0).f (S 0).u now = true <;> by_cases h1 : hoB (S 1).f (S 1).u now = true <;> by_cases h2 : hoB (S 2).f (S 2).u now = true
  all_goals simp only [h0, h1, h2, if_true, if_false, Bool.false_eq_true]
  all_goals first | omega | exact absurd (a01 h0 h1) id | exact absurd (a02 h0 h2) id | exact absurd (a12 h1 h2) id
theorem ew_hub {L : List Vo} {A : List Bool} {hub now len : Int} {V : List Vo} {h f u er : Int} (hE : EW L A hub now len V h f u er) (h0 : er = 0) : h = hub := by
  cases hE with
  | no h0 f0 u0 _ h1 h2 => exact absurd ‹er = 0› h2
  | few h f u h1 h2 => cases h0
  | ok _ _ _ h1 h2 => cases h1; rfl
/-- What receiving does, told short. -/
theorem rw_ways {t : Int} {L : List Bool} {f : Int} {l : List Int} {dn a b c d T : Int} {A : List Bool} {F : Int} {V : List Int} {D : Int} {ok : Bool} {er : Int} (h : RW t L f l dn a b c d T A F V D ok er) (hw : WF t L) :
    WF T A ∧ V.length = l.length ∧ ((er = 0 ∧ D = dn + 1 ∧ F = b ∧ f ≤ b) ∨ (er = 0 ∧ D = dn ∧ F = f) ∨ (er ≠ 0 ∧ D = dn ∧ F = f)) := by
  cases h with
  | bad h => exact ⟨hw, rfl, .inr (.inr ⟨by decide, rfl, rfl⟩)⟩
  | old => exact ⟨hw, rfl, .inr (.inr ⟨by decide, rfl, rfl⟩)⟩
  | known => exact ⟨hw, rfl, .inr (.inl ⟨rfl, rfl, rfl⟩)⟩
  | low => exact ⟨hw, rfl, .inr (.inr ⟨by decide, rfl, rfl⟩)⟩
  | did h1 h2 h3 h4 h5 h6 => exact ⟨wf_acc a hw, by simp, .inl ⟨rfl, rfl, rfl, h6⟩⟩
/-- The count of orders stays small. -/
theorem rw_dn {t : Int} {L : List Bool} {f : Int} {l : List Int} {dn a b c d T : Int} {A : List Bool} {F : Int} {V : List Int} {D : Int} {ok : Bool} {er : Int} (h : RW t L f l dn a b c d T A F V D ok er) (hd : 0 ≤ dn ∧ dn ≤ 1000002) : 0 ≤ D ∧ D ≤ 1000002 := by
  cases h with
  | bad h => exact hd
  | old => exact hd
  | known => exact hd
  | low => exact hd
  | did h1 h2 h3 h4 h5 h6 =>
    unfold rvB at h2
    rw [Bool.and_eq_true, Bool.and_eq_true, inr_iff, inr_iff] at h2
    omega
end Go.Proofs.Ytnanndmpbecdiaa
