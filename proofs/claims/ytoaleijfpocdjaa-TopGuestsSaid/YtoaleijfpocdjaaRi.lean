/- Sets of tags: 'Add', 'Has'. -/
import Derived.Test.YtoaleijfpocdjaaRh
import Derived.Test.YtoaleijfpocdjaaRg
import Derived.Test.YtoaleijfpocdjaaNz
namespace Go.Proofs.Ytoaleijfpocdjaa
open Go.RowKit

set_option maxRecDepth 100000 in
set_option maxHeartbeats 2000000 in
theorem add_any (va : Value) (l : List Int) (n : Int) (w : World) (h : TgAt w va l) : Calls Try.prog 17 #[.agg #[va], .int .i64 n] w fun e w' => (∃ u, e = .returned (.tuple #[.agg #[u], .int .i64 (mgE l [n])]) ∧ w'.ownsRow w.heap.size 3 1 u (mgL l [n]).length ((mgL l [n]).map (Value.int .i64))) ∧ Below w.heap.size w w' := by
  have H := Lib.hid h
  obtain ⟨⟨a, cap, rfl, -, -⟩, -⟩ := h
  have HB0 := Lib.hid (Below.refl w.heap.size w)
  go_enter Try.func17, Try.ntmps17
  have KA_1 := Lib.hid (Cs.new w (w.heap.size) #[.slice a l.length cap] 34 (by simp))
  have HB2 : Hid (Below w.heap.size w (w.alloc (.cells #[.slice a l.length cap] 34))) := HB0.out.alloc HB0.out.size _
  clear HB0
  have KA_3 := Lib.hid (KA_1.out.alloc (.cells #[.slice none 0 0] 34))
  clear KA_1
  have KR_4 := Lib.hid (Cs.new (w.alloc (.cells #[.slice a l.length cap] 34)) (w.heap.size + 1) #[.slice none 0 0] 34 (by simp))
  have HB5 : Hid (Below w.heap.size w ((w.alloc (.cells #[.slice a l.length cap] 34)).alloc (.cells #[.slice none 0 0] 34))) := HB2.out.alloc HB2.out.size _
  clear HB2
  have xA0 : ((w.alloc (.cells #[.slice a l.length cap] 34)).alloc (.cells #[.slice none 0 0] 34)).cell? ⟨w.heap.size, 0, none⟩ = some (.slice a l.length cap) := KA_3.out.c 0 rfl
  have zA : w.heap.size < ((w.alloc (.cells #[.slice a l.length cap] 34)).alloc (.cells #[.slice none 0 0] 34)).heap.size := KA_3.out.2.2
  have z2A : w.heap.size < ((w.alloc (.cells #[.slice a l.length cap] 34)).alloc (.cells #[.slice none 0 0] 34)).heap.size + 1 := by omega
  go_wp2_with fail
  have KA_6 := Lib.hid (KA_3.out.alloc (.cells #[.int .i64 n] 3))
  clear KA_3
  have KR_7 := Lib.hid (KR_4.out.alloc (.cells #[.int .i64 n] 3))
  clear KR_4
  have HB8 : Hid (Below w.heap.size w (((w.alloc (.cells #[.slice a l.length cap] 34)).alloc (.cells #[.slice none 0 0] 34)).alloc (.cells #[.int .i64 n] 3))) := HB5.out.alloc HB5.out.size _
  clear HB5
  refine (merge2_any _ _ l [n] _ (H.out.step HB8.out) (tg_one ((w.alloc (.cells #[.slice a l.length cap] 34)).alloc (.cells #[.slice none 0 0] 34)) n (w.heap.size + 1 + 1) (by simp))).mono ?_
  rintro e u5 ⟨⟨u, rfl, hu⟩, b5⟩
  clear xA0 zA z2A
  have KA_9 := Lib.hid (KA_6.out.step b5)
  clear KA_6
  have KR_10 := Lib.hid (KR_7.out.step b5)
  clear KR_7
  have HB11 := Lib.hid (keep2 b5 HB8.out)
  clear HB8 b5
  have HU := Lib.hid hu
  obtain ⟨ua, uc, rfl⟩ := row_slice hu
  clear hu
  obtain ⟨er, her⟩ : ∃ er, mgE l [n] = er := ⟨_, rfl⟩
  rw [her]
  replace her := Lib.hid her
  have xR0 : u5.cell? ⟨w.heap.size + 1, 0, none⟩ = some (.slice none 0 0) := KR_10.out.c 0 rfl
  have yR0 : u5.frozen? ⟨w.heap.size + 1, 0, none⟩ = false := KR_10.out.f 0 (by simp)
  have zR : w.heap.size + 1 < u5.heap.size := KR_10.out.2.2
  have z2R : w.heap.size + 1 < u5.heap.size + 1 := by omega
  obtain ⟨L, hL⟩ : ∃ L, mgL l [n] = L := ⟨_, rfl⟩
  rw [hL] at HU ⊢
  replace hL := Lib.hid hL
  go_wp2
  have Q := KR_10.out.set 0 (by simp) (.slice ua L.length uc) rfl
  have q0 := Q.c 0 rfl
  have q1 := row_set (g := w.heap.size + 1) (j := 0) (x := .slice ua L.length uc) HU.out (fun e => absurd (row_own HU.out _ e) (by simp only [World.size_alloc]; omega))
  have q2 := row_base (b2 := w.heap.size) q1 (by simp only [World.size_alloc]; omega)
  exact bodyPost_ret (v := .tuple #[.agg #[.slice ua L.length uc], .int .i64 er]) (by simp [results, Try.results17, go_sem, q0]) rfl ⟨⟨_, by rw [her.out], by rw [hL.out]; exact q2⟩, HB11.out.setCell (by simp) _⟩
def hsB (l : List Int) (t : Int) : Bool := stB l && inB l t
end Go.Proofs.Ytoaleijfpocdjaa
