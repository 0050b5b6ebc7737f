/- Delivery: 'Receive'. -/
import Derived.Test.YtifnhfpdcbpjlaaVj
namespace Go.Proofs.Ytifnhfpdcbpjlaa
open Go.RowKit

set_option maxRecDepth 100000 in
set_option maxHeartbeats 4000000 in
theorem receive_new (f dn fe y : Int) (x seq : Nat) (s v : Value) (l : List Int) (w : World) (hs : BosAt w s (List.replicate 16 false)) (hv : IntsAt w v l) (h9 : l.length ≤ 1200)
    (ho : (inr (seq : Int) 0 1000000 && (inr fe 0 1000000000 && (inr (x : Int) 0 1199 && inr y 0 15))) = true) (hk : (inr f 0 1000000000 && (vaB l && inr dn 0 1000001)) = true) (hx : x < l.length) (hf : f ≤ fe) :
    Calls Try.prog 9 #[.agg #[.int .i64 (-1), s, .int .i64 f, v, .int .i64 dn], .agg #[.int .i64 seq, .int .i64 fe, .int .i64 x, .int .i64 y]] w fun e w' =>
      ∃ (g : Nat) (va : Option Addr) (vc : Nat), e = .returned (.tuple #[.agg #[.int .i64 seq, .slice (some ⟨g, 0, none⟩) 16 16, .int .i64 fe, .slice va l.length vc, .int .i64 (dn + 1)], .bool true, .int .i64 0]) ∧ BosAt w' (.slice (some ⟨g, 0, none⟩) 16 16) (shL (List.replicate 16 false) (seq + 1)) ∧ IntsAt w' (.slice va l.length vc) (l.set x y) ∧ Below w.heap.size w w' := by
  have HR0 := Lib.hid (Cs.new ((w.alloc (.cells #[.int .i64 (-1), s, .int .i64 f, v, .int .i64 dn] 44)).alloc (.cells #[.int .i64 seq, .int .i64 fe, .int .i64 x, .int .i64 y] 49)) (w.heap.size + 1 + 1) #[.int .i64 0, .slice none 0 0, .int .i64 0, .slice none 0 0, .int .i64 0] 44 (by simp))
  have HO0 := Lib.hid ((Cs.new (w.alloc (.cells #[.int .i64 (-1), s, .int .i64 f, v, .int .i64 dn] 44)) (w.heap.size + 1) #[.int .i64 seq, .int .i64 fe, .int .i64 x, .int .i64 y] 49 (by simp)).alloc (.cells #[.int .i64 0, .slice none 0 0, .int .i64 0, .slice none 0 0, .int .i64 0] 44))
  have HB0 := Lib.hid (al3 (w := w) (o1 := .cells #[.int .i64 (-1), s, .int .i64 f, v, .int .i64 dn] 44) (o2 := .cells #[.int .i64 seq, .int .i64 fe, .int .i64 x, .int .i64 y] 49) (o3 := .cells #[.int .i64 0, .slice none 0 0, .int .i64 0, .slice none 0 0, .int .i64 0] 44))
  have HS0 := Lib.hid (hs.step HB0.out)
  have HV0 := Lib.hid (hv.step HB0.out)
  have HH := Lib.hid (show _ ∧ _ ∧ _ ∧ _ ∧ _ from ⟨h9, ho, hk, hx, hf⟩)
  clear hs hv h9 ho hk hx hf
  go_enter Try.func9, Try.ntmps9
  go_wp2_with fail
  generalize (((w.alloc (.cells #[.int .i64 (-1), s, .int .i64 f, v, .int .i64 dn] 44)).alloc (.cells #[.int .i64 seq, .int .i64 fe, .int .i64 x, .int .i64 y] 49)).alloc (.cells #[.int .i64 0, .slice none 0 0, .int .i64 0, .slice none 0 0, .int .i64 0] 44)) = wq at *
  refine (copied_any (-1) f dn s v (List.replicate 16 false) l _ HS0.out HV0.out (by simp) HH.out.1).mono ?_
  rintro e w1 ⟨n, uc, vc, ua, va, rfl, hn, hc, -, hvn, -, hu, hvr, hb⟩
  have HC1 := Lib.hid hc
  have HU1 := Lib.hid (bos_of_row (xs := List.replicate 16 false) hu)
  have HV1 := Lib.hid hvr
  have HVN := Lib.hid hvn
  have HN := Lib.hid hn
  have HR1 := Lib.hid (HR0.out.step hb)
  have HO1 := Lib.hid (HO0.out.step hb)
  have HB1 := Lib.hid (keep2 hb HB0.out)
  have HZ := Lib.hid (show w.heap.size + 1 + 1 < wq.heap.size from HR0.out.2.2)
  have BQ := Lib.hid hb
  have HWQ := Lib.hid (show wq.heap.size ≤ w1.heap.size from hb.size)
  rcases hvr.2 with ⟨e, e2⟩ | ⟨gv, cp, cur, e, hg1, hg2, hg3⟩
  · exfalso
    have := HH.out.2.2.2.1
    omega
  obtain ⟨rfl, rfl⟩ : va = some ⟨gv, 0, none⟩ ∧ vc = cp := by simpa using e
  have HGV := Lib.hid hg1
  clear e hg1 hg2 hg3
  clear hc hu hvr hvn hn hb HO0 HS0 HV0
  have o0 : w1.cell? ⟨w.heap.size + 1, 0, none⟩ = some (.int .i64 seq) := HO1.out.c 0 rfl
  have o1 : w1.cell? ⟨w.heap.size + 1, 1, none⟩ = some (.int .i64 fe) := HO1.out.c 1 rfl
  have o2 : w1.cell? ⟨w.heap.size + 1, 2, none⟩ = some (.int .i64 x) := HO1.out.c 2 rfl
  have o3 : w1.cell? ⟨w.heap.size + 1, 3, none⟩ = some (.int .i64 y) := HO1.out.c 3 rfl
  go_wp2_with fail
  refine (recv_new f dn fe y x seq _ (some ⟨gv, 0, none⟩) vc l n wq.heap.size _ HC1.out HU1.out HV1.out HH.out.2.1 HH.out.2.2.1 HH.out.2.2.2.1 HH.out.2.2.2.2 HVN.out HC1.out.2.2).mono ?_
  rintro e w2 ⟨rfl, g, hgs, hc, hg, hv, hb⟩
  have HGS := Lib.hid hgs
  clear hgs
  have HM := Lib.hid (show min wq.heap.size n = wq.heap.size from Nat.min_eq_left HN.out)
  rw [HM.out] at hb
  have HC2 := Lib.hid hc
  have HG2 := Lib.hid hg
  have HV2 := Lib.hid hv
  have BQ2 := Lib.hid (BQ.out.trans hb)
  have HR2 := Lib.hid (HR0.out.step BQ2.out)
  have HB2 := Lib.hid (keep2 BQ2.out HB0.out)
  clear hc hg hv hb o0 o1 o2 o3 HR0 HB0 HR1 HO1 HB1 HC1 HU1 HV1 BQ
  have c0 : w2.cell? ⟨n, 0, none⟩ = some (.int .i64 seq) := HC2.out.c 0 rfl
  have c1 : w2.cell? ⟨n, 1, none⟩ = some (.slice (some ⟨g, 0, none⟩) 16 16) := HC2.out.c 1 rfl
  have c2 : w2.cell? ⟨n, 2, none⟩ = some (.int .i64 fe) := HC2.out.c 2 rfl
  have c3 : w2.cell? ⟨n, 3, none⟩ = some (.slice (some ⟨gv, 0, none⟩) l.length vc) := HC2.out.c 3 rfl
  have c4 : w2.cell? ⟨n, 4, none⟩ = some (.int .i64 (dn + 1)) := HC2.out.c 4 rfl
  have r0 : w2.cell? ⟨w.heap.size + 1 + 1, 0, none⟩ = some (.int .i64 0) := HR2.out.c 0 rfl
  have r1 : w2.cell? ⟨w.heap.size + 1 + 1, 1, none⟩ = some (.slice none 0 0) := HR2.out.c 1 rfl
  have r2 : w2.cell? ⟨w.heap.size + 1 + 1, 2, none⟩ = some (.int .i64 0) := HR2.out.c 2 rfl
  have r3 : w2.cell? ⟨w.heap.size + 1 + 1, 3, none⟩ = some (.slice none 0 0) := HR2.out.c 3 rfl
  have r4 : w2.cell? ⟨w.heap.size + 1 + 1, 4, none⟩ = some (.int .i64 0) := HR2.out.c 4 rfl
  have q0 := HR2.out.f 0 (by simp)
  have q1 := HR2.out.f 1 (by simp)
  have q2 := HR2.out.f 2 (by simp)
  have q3 := HR2.out.f 3 (by simp)
  have q4 := HR2.out.f 4 (by simp)
  go_wp2_with fail
  have HLE := Lib.hid (show w.heap.size ≤ w.heap.size + 1 + 1 by omega)
  have hgn : g ≠ w.heap.size + 1 + 1 := by have := HGS.out; have := HZ.out; have := HWQ.out; omega
  have hvn : gv ≠ w.heap.size + 1 + 1 := by have := HGV.out; have := HZ.out; omega
  refine (fun (h : ∀ W : World, Cs W (w.heap.size + 1 + 1) #[.int .i64 seq, .slice (some ⟨g, 0, none⟩) 16 16, .int .i64 fe, .slice (some ⟨gv, 0, none⟩) l.length vc, .int .i64 (dn + 1)] → BosAt W (.slice (some ⟨g, 0, none⟩) 16 16) (shL (List.replicate 16 false) (seq + 1)) → IntsAt W (.slice (some ⟨gv, 0, none⟩) l.length vc) (l.set x y) → Below w.heap.size w W → bodyPost Try.prog Try.f9 _ Exit.ret _ W) => h _ (Cs.set (Cs.set (Cs.set (Cs.set (Cs.set HR2.out 0 (by simp) (.int .i64 seq) (vs' := #[.int .i64 seq, .slice none 0 0, .int .i64 0, .slice none 0 0, .int .i64 0]) rfl) 1 (by simp) (.slice (some ⟨g, 0, none⟩) 16 16) (vs' := #[.int .i64 seq, .slice (some ⟨g, 0, none⟩) 16 16, .int .i64 0, .slice none 0 0, .int .i64 0]) rfl) 2 (by simp) (.int .i64 fe) (vs' := #[.int .i64 seq, .slice (some ⟨g, 0, none⟩) 16 16, .int .i64 fe, .slice none 0 0, .int .i64 0]) rfl) 3 (by simp) (.slice (some ⟨gv, 0, none⟩) l.length vc) (vs' := #[.int .i64 seq, .slice (some ⟨g, 0, none⟩) 16 16, .int .i64 fe, .slice (some ⟨gv, 0, none⟩) l.length vc, .int .i64 0]) rfl) 4 (by simp) (.int .i64 (dn + 1)) (vs' := #[.int .i64 seq, .slice (some ⟨g, 0, none⟩) 16 16, .int .i64 fe, .slice (some ⟨gv, 0, none⟩) l.length vc, .int .i64 (dn + 1)]) rfl) (bos_other (bos_other (bos_other (bos_other (bos_other HG2.out hgn 0 (.int .i64 seq)) hgn 1 (.slice (some ⟨g, 0, none⟩) 16 16)) hgn 2 (.int .i64 fe)) hgn 3 (.slice (some ⟨gv, 0, none⟩) l.length vc)) hgn 4 (.int .i64 (dn + 1))) (ints_other (ints_other (ints_other (ints_other (ints_other HV2.out hvn 0 (.int .i64 seq)) hvn 1 (.slice (some ⟨g, 0, none⟩) 16 16)) hvn 2 (.int .i64 fe)) hvn 3 (.slice (some ⟨gv, 0, none⟩) l.length vc)) hvn 4 (.int .i64 (dn + 1))) (((((HB2.out.setCell (p := ⟨w.heap.size + 1 + 1, 0, none⟩) HLE.out (.int .i64 seq)).setCell (p := ⟨w.heap.size + 1 + 1, 1, none⟩) HLE.out (.slice (some ⟨g, 0, none⟩) 16 16)).setCell (p := ⟨w.heap.size + 1 + 1, 2, none⟩) HLE.out (.int .i64 fe)).setCell (p := ⟨w.heap.size + 1 + 1, 3, none⟩) HLE.out (.slice (some ⟨gv, 0, none⟩) l.length vc)).setCell (p := ⟨w.heap.size + 1 + 1, 4, none⟩) HLE.out (.int .i64 (dn + 1)))) ?_
  intro W hC hO hI hB
  have k0 : W.cell? ⟨w.heap.size + 1 + 1, 0, none⟩ = some (.int .i64 seq) := hC.c 0 rfl
  have k1 : W.cell? ⟨w.heap.size + 1 + 1, 1, none⟩ = some (.slice (some ⟨g, 0, none⟩) 16 16) := hC.c 1 rfl
  have k2 : W.cell? ⟨w.heap.size + 1 + 1, 2, none⟩ = some (.int .i64 fe) := hC.c 2 rfl
  have k3 : W.cell? ⟨w.heap.size + 1 + 1, 3, none⟩ = some (.slice (some ⟨gv, 0, none⟩) l.length vc) := hC.c 3 rfl
  have k4 : W.cell? ⟨w.heap.size + 1 + 1, 4, none⟩ = some (.int .i64 (dn + 1)) := hC.c 4 rfl
  exact bodyPost_ret (v := .tuple #[.agg #[.int .i64 seq, .slice (some ⟨g, 0, none⟩) 16 16, .int .i64 fe, .slice (some ⟨gv, 0, none⟩) l.length vc, .int .i64 (dn + 1)], .bool true, .int .i64 0]) (by simp [results, Try.results9, go_sem, k0, k1, k2, k3, k4]) rfl ⟨g, some ⟨gv, 0, none⟩, vc, rfl, hO, hI, hB⟩

set_option maxRecDepth 100000 in
set_option maxHeartbeats 4000000 in
theorem receive_fence (f dn fe y : Int) (x seq t : Nat) (s v : Value) (l : List Int) (L : List Bool) (w : World) (hs : BosAt w s L) (hv : IntsAt w v l) (h9 : l.length ≤ 1200)
    (ho : (inr (seq : Int) 0 1000000 && (inr fe 0 1000000000 && (inr (x : Int) 0 1199 && inr y 0 15))) = true) (hk : (inr f 0 1000000000 && (vaB l && inr dn 0 1000001)) = true) (hx : x < l.length) (hf : fe < f)
    (hl : L.length = 16) (hw : wkB t L = true) (ht : t ≤ 1000000) (h1 : seq ≤ t) (h2 : t - seq < 16) (h3 : L.getD (t - seq) false = false) :
    Calls Try.prog 9 #[.agg #[.int .i64 t, s, .int .i64 f, v, .int .i64 dn], .agg #[.int .i64 seq, .int .i64 fe, .int .i64 x, .int .i64 y]] w fun e w' =>
      ∃ (ua va : Option Addr) (uc vc : Nat), e = .returned (.tuple #[.agg #[.int .i64 t, .slice ua 16 uc, .int .i64 f, .slice va l.length vc, .int .i64 dn], .bool false, .int .i64 23]) ∧ Below w.heap.size w w' := by
  have HR0 := Lib.hid (Cs.new ((w.alloc (.cells #[.int .i64 t, s, .int .i64 f, v, .int .i64 dn] 44)).alloc (.cells #[.int .i64 seq, .int .i64 fe, .int .i64 x, .int .i64 y] 49)) (w.heap.size + 1 + 1) #[.int .i64 0, .slice none 0 0, .int .i64 0, .slice none 0 0, .int .i64 0] 44 (by simp))
  have HO0 := Lib.hid ((Cs.new (w.alloc (.cells #[.int .i64 t, s, .int .i64 f, v, .int .i64 dn] 44)) (w.heap.size + 1) #[.int .i64 seq, .int .i64 fe, .int .i64 x, .int .i64 y] 49 (by simp)).alloc (.cells #[.int .i64 0, .slice none 0 0, .int .i64 0, .slice none 0 0, .int .i64 0] 44))
  have HB0 := Lib.hid (al3 (w := w) (o1 := .cells #[.int .i64 t, s, .int .i64 f, v, .int .i64 dn] 44) (o2 := .cells #[.int .i64 seq, .int .i64 fe, .int .i64 x, .int .i64 y] 49) (o3 := .cells #[.int .i64 0, .slice none 0 0, .int .i64 0, .slice none 0 0, .int .i64 0] 44))
  have HS0 := Lib.hid (hs.step HB0.out)
  have HV0 := Lib.hid (hv.step HB0.out)
  have HH := Lib.hid (show _ ∧ _ ∧ _ ∧ _ ∧ _ from ⟨h9, ho, hk, hx, hf⟩)
  have HA := Lib.hid (show _ ∧ _ ∧ _ ∧ _ ∧ _ ∧ _ from ⟨hl, hw, ht, h1, h2, h3⟩)
  clear hs hv h9 ho hk hx hf hl hw ht h1 h2 h3
  go_enter Try.func9, Try.ntmps9
  go_wp2_with fail
  generalize (((w.alloc (.cells #[.int .i64 t, s, .int .i64 f, v, .int .i64 dn] 44)).alloc (.cells #[.int .i64 seq, .int .i64 fe, .int .i64 x, .int .i64 y] 49)).alloc (.cells #[.int .i64 0, .slice none 0 0, .int .i64 0, .slice none 0 0, .int .i64 0] 44)) = wq at *
  refine (copied_any t f dn s v L l _ HS0.out HV0.out HA.out.1 HH.out.1).mono ?_
  rintro e w1 ⟨n, uc, vc, ua, va, rfl, hn, hc, -, hvn, -, hu, hvr, hb⟩
  obtain ⟨cc, rfl⟩ : ∃ cc, uc = cc + 16 := by
    rcases hu.2 with ⟨-, e⟩ | ⟨gv, cp, cur, e, -, -, hg⟩
    · cases e
    · obtain ⟨-, rfl⟩ : ua = some ⟨gv, 0, none⟩ ∧ uc = cp := by simpa using e
      exact ⟨uc - 16, by have := hg.1; omega⟩
  have HC1 := Lib.hid hc
  have hub := bos_of_row (xs := L) (by rw [HA.out.1]; exact hu)
  have HU1 := Lib.hid hub
  have HV1 := Lib.hid hvr
  have HR1 := Lib.hid (HR0.out.step hb)
  have HO1 := Lib.hid (HO0.out.step hb)
  have HB1 := Lib.hid (keep2 hb HB0.out)
  clear hc hu hub hvr hvn hn hb HO0 HS0 HV0 HR0 HB0
  have o0 : w1.cell? ⟨w.heap.size + 1, 0, none⟩ = some (.int .i64 seq) := HO1.out.c 0 rfl
  have o1 : w1.cell? ⟨w.heap.size + 1, 1, none⟩ = some (.int .i64 fe) := HO1.out.c 1 rfl
  have o2 : w1.cell? ⟨w.heap.size + 1, 2, none⟩ = some (.int .i64 x) := HO1.out.c 2 rfl
  have o3 : w1.cell? ⟨w.heap.size + 1, 3, none⟩ = some (.int .i64 y) := HO1.out.c 3 rfl
  go_wp2_with fail
  refine (recv_fence f dn fe y x seq t cc ua va vc l L n wq.heap.size _ HC1.out HU1.out HV1.out HH.out.2.1 HH.out.2.2.1 HH.out.2.2.2.1 HH.out.2.2.2.2 HA.out.1 HA.out.2.1 HA.out.2.2.1 HA.out.2.2.2.1 HA.out.2.2.2.2.1 HA.out.2.2.2.2.2).mono ?_
  rintro e w2 ⟨rfl, hb⟩
  have HC2 := Lib.hid (HC1.out.step hb)
  have HR2 := Lib.hid (HR1.out.step hb)
  have HB2 := Lib.hid (keep2 hb HB1.out)
  clear hb o0 o1 o2 o3 HR1 HO1 HB1 HC1 HU1 HV1
  have c0 : w2.cell? ⟨n, 0, none⟩ = some (.int .i64 t) := HC2.out.c 0 rfl
  have c1 : w2.cell? ⟨n, 1, none⟩ = some (.slice ua 16 (cc + 16)) := HC2.out.c 1 rfl
  have c2 : w2.cell? ⟨n, 2, none⟩ = some (.int .i64 f) := HC2.out.c 2 rfl
  have c3 : w2.cell? ⟨n, 3, none⟩ = some (.slice va l.length vc) := HC2.out.c 3 rfl
  have c4 : w2.cell? ⟨n, 4, none⟩ = some (.int .i64 dn) := HC2.out.c 4 rfl
  have r0 : w2.cell? ⟨w.heap.size + 1 + 1, 0, none⟩ = some (.int .i64 0) := HR2.out.c 0 rfl
  have q0 := HR2.out.f 0 (by simp)
  have r1 : w2.cell? ⟨w.heap.size + 1 + 1, 1, none⟩ = some (.slice none 0 0) := HR2.out.c 1 rfl
  have q1 := HR2.out.f 1 (by simp)
  have r2 : w2.cell? ⟨w.heap.size + 1 + 1, 2, none⟩ = some (.int .i64 0) := HR2.out.c 2 rfl
  have q2 := HR2.out.f 2 (by simp)
  have r3 : w2.cell? ⟨w.heap.size + 1 + 1, 3, none⟩ = some (.slice none 0 0) := HR2.out.c 3 rfl
  have q3 := HR2.out.f 3 (by simp)
  have r4 : w2.cell? ⟨w.heap.size + 1 + 1, 4, none⟩ = some (.int .i64 0) := HR2.out.c 4 rfl
  have q4 := HR2.out.f 4 (by simp)
  go_wp2_with fail
  have HLE := Lib.hid (show w.heap.size ≤ w.heap.size + 1 + 1 by omega)
  refine (fun (h : ∀ W : World, Cs W (w.heap.size + 1 + 1) #[.int .i64 t, .slice ua 16 (cc + 16), .int .i64 f, .slice va l.length vc, .int .i64 dn] → Below w.heap.size w W → bodyPost Try.prog Try.f9 _ Exit.ret _ W) => h _ (Cs.set (Cs.set (Cs.set (Cs.set (Cs.set HR2.out 0 (by simp) (.int .i64 t) (vs' := #[.int .i64 t, .slice none 0 0, .int .i64 0, .slice none 0 0, .int .i64 0]) rfl) 1 (by simp) (.slice ua 16 (cc + 16)) (vs' := #[.int .i64 t, .slice ua 16 (cc + 16), .int .i64 0, .slice none 0 0, .int .i64 0]) rfl) 2 (by simp) (.int .i64 f) (vs' := #[.int .i64 t, .slice ua 16 (cc + 16), .int .i64 f, .slice none 0 0, .int .i64 0]) rfl) 3 (by simp) (.slice va l.length vc) (vs' := #[.int .i64 t, .slice ua 16 (cc + 16), .int .i64 f, .slice va l.length vc, .int .i64 0]) rfl) 4 (by simp) (.int .i64 dn) (vs' := #[.int .i64 t, .slice ua 16 (cc + 16), .int .i64 f, .slice va l.length vc, .int .i64 dn]) rfl) (((((HB2.out.setCell (p := ⟨w.heap.size + 1 + 1, 0, none⟩) HLE.out (.int .i64 t)).setCell (p := ⟨w.heap.size + 1 + 1, 1, none⟩) HLE.out (.slice ua 16 (cc + 16))).setCell (p := ⟨w.heap.size + 1 + 1, 2, none⟩) HLE.out (.int .i64 f)).setCell (p := ⟨w.heap.size + 1 + 1, 3, none⟩) HLE.out (.slice va l.length vc)).setCell (p := ⟨w.heap.size + 1 + 1, 4, none⟩) HLE.out (.int .i64 dn))) ?_
  intro W hC hB
  have k0 : W.cell? ⟨w.heap.size + 1 + 1, 0, none⟩ = some (.int .i64 t) := hC.c 0 rfl
  have k1 : W.cell? ⟨w.heap.size + 1 + 1, 1, none⟩ = some (.slice ua 16 (cc + 16)) := hC.c 1 rfl
  have k2 : W.cell? ⟨w.heap.size + 1 + 1, 2, none⟩ = some (.int .i64 f) := hC.c 2 rfl
  have k3 : W.cell? ⟨w.heap.size + 1 + 1, 3, none⟩ = some (.slice va l.length vc) := hC.c 3 rfl
  have k4 : W.cell? ⟨w.heap.size + 1 + 1, 4, none⟩ = some (.int .i64 dn) := hC.c 4 rfl
  exact bodyPost_ret (v := .tuple #[.agg #[.int .i64 t, .slice ua 16 (cc + 16), .int .i64 f, .slice va l.length vc, .int .i64 dn], .bool false, .int .i64 23]) (by simp [results, Try.results9, go_sem, k0, k1, k2, k3, k4]) rfl ⟨ua, va, cc + 16, vc, rfl, hB⟩
end Go.Proofs.Ytifnhfpdcbpjlaa
