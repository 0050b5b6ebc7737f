/- Capabilities: the reference's 'Same'. -/
import Derived.Test.YtdifgdnndmikaaaNc
namespace Go.Proofs.Ytdifgdnndmikaaa
open Go.RowKit

theorem cv_ext {c d : Cv} (h1 : c.k = d.k) (h2 : c.v = d.v) : c = d := by
  cases c; cases d; simp only at h1 h2; rw [h1, h2]
theorem cvs_ext {l m : List Cv} (hl : l.length = m.length) (h : ∀ j, j < l.length → l.getD j zC = m.getD j zC) : l = m := by
  refine List.ext_getElem hl fun i h1 h2 => ?_
  have := h i h1
  simpa [h1, h2] using this
set_option maxRecDepth 100000 in
set_option maxHeartbeats 4000000 in
theorem same_id (id tag id2 tag2 : Int) (v v2 : Value) (l l2 : List Cv) (w : World) (h : CvsAt w v l) (h2 : CvsAt w v2 l2) (hi : id ≠ id2) : Calls Try.prog 12 #[.agg #[.int .i64 id, v, .int .i64 tag], .agg #[.int .i64 id2, v2, .int .i64 tag2]] w fun e w' => e = .returned (.bool false) ∧ Below w.heap.size w w' := by
  have HL := Lib.hid h
  have HM := Lib.hid h2
  obtain ⟨a, cap, rfl, -, hm, -⟩ := h
  obtain ⟨a', cap', rfl, -, -, -⟩ := h2
  unfold maxLen at hm
  have hi1 : (id != id2) = true := by simpa using hi
  have hi2 : (id == id2) = false := by simpa using hi
  have hi3 : decide (id = id2) = false := by simpa using hi
  have HB0 := Lib.hid (Below.refl w.heap.size w)
  go_enter Try.func12, Try.ntmps12
  have KA_1 := Lib.hid (Cs.new w (w.heap.size) #[.int .i64 id, .slice a l.length cap, .int .i64 tag] 24 (by simp))
  have HB2 : Hid (Below w.heap.size w (w.alloc (.cells #[.int .i64 id, .slice a l.length cap, .int .i64 tag] 24))) := HB0.out.alloc HB0.out.size _
  clear HB0
  have KA_3 := Lib.hid (KA_1.out.alloc (.cells #[.int .i64 id2, .slice a' l2.length cap', .int .i64 tag2] 24))
  clear KA_1
  have KB_4 := Lib.hid (Cs.new (w.alloc (.cells #[.int .i64 id, .slice a l.length cap, .int .i64 tag] 24)) (w.heap.size + 1) #[.int .i64 id2, .slice a' l2.length cap', .int .i64 tag2] 24 (by simp))
  have HB5 : Hid (Below w.heap.size w ((w.alloc (.cells #[.int .i64 id, .slice a l.length cap, .int .i64 tag] 24)).alloc (.cells #[.int .i64 id2, .slice a' l2.length cap', .int .i64 tag2] 24))) := HB2.out.alloc HB2.out.size _
  clear HB2
  have xA0 : ((w.alloc (.cells #[.int .i64 id, .slice a l.length cap, .int .i64 tag] 24)).alloc (.cells #[.int .i64 id2, .slice a' l2.length cap', .int .i64 tag2] 24)).cell? ⟨w.heap.size, 0, none⟩ = some (.int .i64 id) := KA_3.out.c 0 rfl
  have xA1 : ((w.alloc (.cells #[.int .i64 id, .slice a l.length cap, .int .i64 tag] 24)).alloc (.cells #[.int .i64 id2, .slice a' l2.length cap', .int .i64 tag2] 24)).cell? ⟨w.heap.size, 1, none⟩ = some (.slice a l.length cap) := KA_3.out.c 1 rfl
  have xA2 : ((w.alloc (.cells #[.int .i64 id, .slice a l.length cap, .int .i64 tag] 24)).alloc (.cells #[.int .i64 id2, .slice a' l2.length cap', .int .i64 tag2] 24)).cell? ⟨w.heap.size, 2, none⟩ = some (.int .i64 tag) := KA_3.out.c 2 rfl
  have zA : w.heap.size < ((w.alloc (.cells #[.int .i64 id, .slice a l.length cap, .int .i64 tag] 24)).alloc (.cells #[.int .i64 id2, .slice a' l2.length cap', .int .i64 tag2] 24)).heap.size := KA_3.out.2.2
  have z2A : w.heap.size < ((w.alloc (.cells #[.int .i64 id, .slice a l.length cap, .int .i64 tag] 24)).alloc (.cells #[.int .i64 id2, .slice a' l2.length cap', .int .i64 tag2] 24)).heap.size + 1 := by omega
  have xB0 : ((w.alloc (.cells #[.int .i64 id, .slice a l.length cap, .int .i64 tag] 24)).alloc (.cells #[.int .i64 id2, .slice a' l2.length cap', .int .i64 tag2] 24)).cell? ⟨w.heap.size + 1, 0, none⟩ = some (.int .i64 id2) := KB_4.out.c 0 rfl
  have xB1 : ((w.alloc (.cells #[.int .i64 id, .slice a l.length cap, .int .i64 tag] 24)).alloc (.cells #[.int .i64 id2, .slice a' l2.length cap', .int .i64 tag2] 24)).cell? ⟨w.heap.size + 1, 1, none⟩ = some (.slice a' l2.length cap') := KB_4.out.c 1 rfl
  have xB2 : ((w.alloc (.cells #[.int .i64 id, .slice a l.length cap, .int .i64 tag] 24)).alloc (.cells #[.int .i64 id2, .slice a' l2.length cap', .int .i64 tag2] 24)).cell? ⟨w.heap.size + 1, 2, none⟩ = some (.int .i64 tag2) := KB_4.out.c 2 rfl
  have zB : w.heap.size + 1 < ((w.alloc (.cells #[.int .i64 id, .slice a l.length cap, .int .i64 tag] 24)).alloc (.cells #[.int .i64 id2, .slice a' l2.length cap', .int .i64 tag2] 24)).heap.size := KB_4.out.2.2
  have z2B : w.heap.size + 1 < ((w.alloc (.cells #[.int .i64 id, .slice a l.length cap, .int .i64 tag] 24)).alloc (.cells #[.int .i64 id2, .slice a' l2.length cap', .int .i64 tag2] 24)).heap.size + 1 := by omega
  go_wp2
  go_ret
  exact ⟨rfl, HB5.out⟩
set_option maxRecDepth 100000 in
set_option maxHeartbeats 4000000 in
theorem same_tag (id tag id2 tag2 : Int) (v v2 : Value) (l l2 : List Cv) (w : World) (h : CvsAt w v l) (h2 : CvsAt w v2 l2) (hi : id = id2) (ht : tag ≠ tag2) : Calls Try.prog 12 #[.agg #[.int .i64 id, v, .int .i64 tag], .agg #[.int .i64 id2, v2, .int .i64 tag2]] w fun e w' => e = .returned (.bool false) ∧ Below w.heap.size w w' := by
  have HL := Lib.hid h
  have HM := Lib.hid h2
  obtain ⟨a, cap, rfl, -, hm, -⟩ := h
  obtain ⟨a', cap', rfl, -, -, -⟩ := h2
  unfold maxLen at hm
  subst hi
  have ht1 : (tag != tag2) = true := by simpa using ht
  have ht2 : (tag == tag2) = false := by simpa using ht
  have ht3 : decide (tag = tag2) = false := by simpa using ht
  have HB0 := Lib.hid (Below.refl w.heap.size w)
  go_enter Try.func12, Try.ntmps12
  have KA_1 := Lib.hid (Cs.new w (w.heap.size) #[.int .i64 id, .slice a l.length cap, .int .i64 tag] 24 (by simp))
  have HB2 : Hid (Below w.heap.size w (w.alloc (.cells #[.int .i64 id, .slice a l.length cap, .int .i64 tag] 24))) := HB0.out.alloc HB0.out.size _
  clear HB0
  have KA_3 := Lib.hid (KA_1.out.alloc (.cells #[.int .i64 id, .slice a' l2.length cap', .int .i64 tag2] 24))
  clear KA_1
  have KB_4 := Lib.hid (Cs.new (w.alloc (.cells #[.int .i64 id, .slice a l.length cap, .int .i64 tag] 24)) (w.heap.size + 1) #[.int .i64 id, .slice a' l2.length cap', .int .i64 tag2] 24 (by simp))
  have HB5 : Hid (Below w.heap.size w ((w.alloc (.cells #[.int .i64 id, .slice a l.length cap, .int .i64 tag] 24)).alloc (.cells #[.int .i64 id, .slice a' l2.length cap', .int .i64 tag2] 24))) := HB2.out.alloc HB2.out.size _
  clear HB2
  have xA0 : ((w.alloc (.cells #[.int .i64 id, .slice a l.length cap, .int .i64 tag] 24)).alloc (.cells #[.int .i64 id, .slice a' l2.length cap', .int .i64 tag2] 24)).cell? ⟨w.heap.size, 0, none⟩ = some (.int .i64 id) := KA_3.out.c 0 rfl
  have xA1 : ((w.alloc (.cells #[.int .i64 id, .slice a l.length cap, .int .i64 tag] 24)).alloc (.cells #[.int .i64 id, .slice a' l2.length cap', .int .i64 tag2] 24)).cell? ⟨w.heap.size, 1, none⟩ = some (.slice a l.length cap) := KA_3.out.c 1 rfl
  have xA2 : ((w.alloc (.cells #[.int .i64 id, .slice a l.length cap, .int .i64 tag] 24)).alloc (.cells #[.int .i64 id, .slice a' l2.length cap', .int .i64 tag2] 24)).cell? ⟨w.heap.size, 2, none⟩ = some (.int .i64 tag) := KA_3.out.c 2 rfl
  have zA : w.heap.size < ((w.alloc (.cells #[.int .i64 id, .slice a l.length cap, .int .i64 tag] 24)).alloc (.cells #[.int .i64 id, .slice a' l2.length cap', .int .i64 tag2] 24)).heap.size := KA_3.out.2.2
  have z2A : w.heap.size < ((w.alloc (.cells #[.int .i64 id, .slice a l.length cap, .int .i64 tag] 24)).alloc (.cells #[.int .i64 id, .slice a' l2.length cap', .int .i64 tag2] 24)).heap.size + 1 := by omega
  have xB0 : ((w.alloc (.cells #[.int .i64 id, .slice a l.length cap, .int .i64 tag] 24)).alloc (.cells #[.int .i64 id, .slice a' l2.length cap', .int .i64 tag2] 24)).cell? ⟨w.heap.size + 1, 0, none⟩ = some (.int .i64 id) := KB_4.out.c 0 rfl
  have xB1 : ((w.alloc (.cells #[.int .i64 id, .slice a l.length cap, .int .i64 tag] 24)).alloc (.cells #[.int .i64 id, .slice a' l2.length cap', .int .i64 tag2] 24)).cell? ⟨w.heap.size + 1, 1, none⟩ = some (.slice a' l2.length cap') := KB_4.out.c 1 rfl
  have xB2 : ((w.alloc (.cells #[.int .i64 id, .slice a l.length cap, .int .i64 tag] 24)).alloc (.cells #[.int .i64 id, .slice a' l2.length cap', .int .i64 tag2] 24)).cell? ⟨w.heap.size + 1, 2, none⟩ = some (.int .i64 tag2) := KB_4.out.c 2 rfl
  have zB : w.heap.size + 1 < ((w.alloc (.cells #[.int .i64 id, .slice a l.length cap, .int .i64 tag] 24)).alloc (.cells #[.int .i64 id, .slice a' l2.length cap', .int .i64 tag2] 24)).heap.size := KB_4.out.2.2
  have z2B : w.heap.size + 1 < ((w.alloc (.cells #[.int .i64 id, .slice a l.length cap, .int .i64 tag] 24)).alloc (.cells #[.int .i64 id, .slice a' l2.length cap', .int .i64 tag2] 24)).heap.size + 1 := by omega
  go_wp2
  go_ret
  exact ⟨rfl, HB5.out⟩
set_option maxRecDepth 100000 in
set_option maxHeartbeats 4000000 in
theorem same_len (id tag id2 tag2 : Int) (v v2 : Value) (l l2 : List Cv) (w : World) (h : CvsAt w v l) (h2 : CvsAt w v2 l2) (hi : id = id2) (ht : tag = tag2) (hn : ¬ l.length = l2.length) : Calls Try.prog 12 #[.agg #[.int .i64 id, v, .int .i64 tag], .agg #[.int .i64 id2, v2, .int .i64 tag2]] w fun e w' => e = .returned (.bool false) ∧ Below w.heap.size w w' := by
  have HL := Lib.hid h
  have HM := Lib.hid h2
  obtain ⟨a, cap, rfl, -, hm, -⟩ := h
  obtain ⟨a', cap', rfl, -, -, -⟩ := h2
  unfold maxLen at hm
  subst hi ht
  have hn1 : ((l.length : Int) != (l2.length : Int)) = true := by simp; omega
  have hn2 : ((l.length : Int) == (l2.length : Int)) = false := by simp; omega
  have hn3 : decide ((l.length : Int) = (l2.length : Int)) = false := by simp; omega
  have HB0 := Lib.hid (Below.refl w.heap.size w)
  go_enter Try.func12, Try.ntmps12
  have KA_1 := Lib.hid (Cs.new w (w.heap.size) #[.int .i64 id, .slice a l.length cap, .int .i64 tag] 24 (by simp))
  have HB2 : Hid (Below w.heap.size w (w.alloc (.cells #[.int .i64 id, .slice a l.length cap, .int .i64 tag] 24))) := HB0.out.alloc HB0.out.size _
  clear HB0
  have KA_3 := Lib.hid (KA_1.out.alloc (.cells #[.int .i64 id, .slice a' l2.length cap', .int .i64 tag] 24))
  clear KA_1
  have KB_4 := Lib.hid (Cs.new (w.alloc (.cells #[.int .i64 id, .slice a l.length cap, .int .i64 tag] 24)) (w.heap.size + 1) #[.int .i64 id, .slice a' l2.length cap', .int .i64 tag] 24 (by simp))
  have HB5 : Hid (Below w.heap.size w ((w.alloc (.cells #[.int .i64 id, .slice a l.length cap, .int .i64 tag] 24)).alloc (.cells #[.int .i64 id, .slice a' l2.length cap', .int .i64 tag] 24))) := HB2.out.alloc HB2.out.size _
  clear HB2
  have xA0 : ((w.alloc (.cells #[.int .i64 id, .slice a l.length cap, .int .i64 tag] 24)).alloc (.cells #[.int .i64 id, .slice a' l2.length cap', .int .i64 tag] 24)).cell? ⟨w.heap.size, 0, none⟩ = some (.int .i64 id) := KA_3.out.c 0 rfl
  have xA1 : ((w.alloc (.cells #[.int .i64 id, .slice a l.length cap, .int .i64 tag] 24)).alloc (.cells #[.int .i64 id, .slice a' l2.length cap', .int .i64 tag] 24)).cell? ⟨w.heap.size, 1, none⟩ = some (.slice a l.length cap) := KA_3.out.c 1 rfl
  have xA2 : ((w.alloc (.cells #[.int .i64 id, .slice a l.length cap, .int .i64 tag] 24)).alloc (.cells #[.int .i64 id, .slice a' l2.length cap', .int .i64 tag] 24)).cell? ⟨w.heap.size, 2, none⟩ = some (.int .i64 tag) := KA_3.out.c 2 rfl
  have zA : w.heap.size < ((w.alloc (.cells #[.int .i64 id, .slice a l.length cap, .int .i64 tag] 24)).alloc (.cells #[.int .i64 id, .slice a' l2.length cap', .int .i64 tag] 24)).heap.size := KA_3.out.2.2
  have z2A : w.heap.size < ((w.alloc (.cells #[.int .i64 id, .slice a l.length cap, .int .i64 tag] 24)).alloc (.cells #[.int .i64 id, .slice a' l2.length cap', .int .i64 tag] 24)).heap.size + 1 := by omega
  have xB0 : ((w.alloc (.cells #[.int .i64 id, .slice a l.length cap, .int .i64 tag] 24)).alloc (.cells #[.int .i64 id, .slice a' l2.length cap', .int .i64 tag] 24)).cell? ⟨w.heap.size + 1, 0, none⟩ = some (.int .i64 id) := KB_4.out.c 0 rfl
  have xB1 : ((w.alloc (.cells #[.int .i64 id, .slice a l.length cap, .int .i64 tag] 24)).alloc (.cells #[.int .i64 id, .slice a' l2.length cap', .int .i64 tag] 24)).cell? ⟨w.heap.size + 1, 1, none⟩ = some (.slice a' l2.length cap') := KB_4.out.c 1 rfl
  have xB2 : ((w.alloc (.cells #[.int .i64 id, .slice a l.length cap, .int .i64 tag] 24)).alloc (.cells #[.int .i64 id, .slice a' l2.length cap', .int .i64 tag] 24)).cell? ⟨w.heap.size + 1, 2, none⟩ = some (.int .i64 tag) := KB_4.out.c 2 rfl
  have zB : w.heap.size + 1 < ((w.alloc (.cells #[.int .i64 id, .slice a l.length cap, .int .i64 tag] 24)).alloc (.cells #[.int .i64 id, .slice a' l2.length cap', .int .i64 tag] 24)).heap.size := KB_4.out.2.2
  have z2B : w.heap.size + 1 < ((w.alloc (.cells #[.int .i64 id, .slice a l.length cap, .int .i64 tag] 24)).alloc (.cells #[.int .i64 id, .slice a' l2.length cap', .int .i64 tag] 24)).heap.size + 1 := by omega
  go_wp2
  go_ret
  exact ⟨rfl, HB5.out⟩
set_option maxRecDepth 100000 in
set_option maxHeartbeats 4000000 in
theorem same_list (id tag id2 tag2 : Int) (v v2 : Value) (l l2 : List Cv) (w : World) (h : CvsAt w v l) (h2 : CvsAt w v2 l2) (hi : id = id2) (ht : tag = tag2) (hn : l.length = l2.length) (hd : l ≠ l2) : Calls Try.prog 12 #[.agg #[.int .i64 id, v, .int .i64 tag], .agg #[.int .i64 id2, v2, .int .i64 tag2]] w fun e w' => e = .returned (.bool false) ∧ Below w.heap.size w w' := by
  have HL := Lib.hid h
  have HM := Lib.hid h2
  obtain ⟨a, cap, rfl, -, hm, -⟩ := h
  obtain ⟨a', cap', rfl, -, -, -⟩ := h2
  unfold maxLen at hm
  subst hi ht
  have hn1 : ((l.length : Int) != (l2.length : Int)) = false := by simp [hn]
  have hn2 : ((l.length : Int) == (l2.length : Int)) = true := by simp [hn]
  replace hn := Lib.hid hn
  replace hd := Lib.hid hd
  have HB0 := Lib.hid (Below.refl w.heap.size w)
  go_enter Try.func12, Try.ntmps12
  have KA_1 := Lib.hid (Cs.new w (w.heap.size) #[.int .i64 id, .slice a l.length cap, .int .i64 tag] 24 (by simp))
  have HB2 : Hid (Below w.heap.size w (w.alloc (.cells #[.int .i64 id, .slice a l.length cap, .int .i64 tag] 24))) := HB0.out.alloc HB0.out.size _
  clear HB0
  have KA_3 := Lib.hid (KA_1.out.alloc (.cells #[.int .i64 id, .slice a' l2.length cap', .int .i64 tag] 24))
  clear KA_1
  have KB_4 := Lib.hid (Cs.new (w.alloc (.cells #[.int .i64 id, .slice a l.length cap, .int .i64 tag] 24)) (w.heap.size + 1) #[.int .i64 id, .slice a' l2.length cap', .int .i64 tag] 24 (by simp))
  have HB5 : Hid (Below w.heap.size w ((w.alloc (.cells #[.int .i64 id, .slice a l.length cap, .int .i64 tag] 24)).alloc (.cells #[.int .i64 id, .slice a' l2.length cap', .int .i64 tag] 24))) := HB2.out.alloc HB2.out.size _
  clear HB2
  have xA0 : ((w.alloc (.cells #[.int .i64 id, .slice a l.length cap, .int .i64 tag] 24)).alloc (.cells #[.int .i64 id, .slice a' l2.length cap', .int .i64 tag] 24)).cell? ⟨w.heap.size, 0, none⟩ = some (.int .i64 id) := KA_3.out.c 0 rfl
  have xA1 : ((w.alloc (.cells #[.int .i64 id, .slice a l.length cap, .int .i64 tag] 24)).alloc (.cells #[.int .i64 id, .slice a' l2.length cap', .int .i64 tag] 24)).cell? ⟨w.heap.size, 1, none⟩ = some (.slice a l.length cap) := KA_3.out.c 1 rfl
  have xA2 : ((w.alloc (.cells #[.int .i64 id, .slice a l.length cap, .int .i64 tag] 24)).alloc (.cells #[.int .i64 id, .slice a' l2.length cap', .int .i64 tag] 24)).cell? ⟨w.heap.size, 2, none⟩ = some (.int .i64 tag) := KA_3.out.c 2 rfl
  have zA : w.heap.size < ((w.alloc (.cells #[.int .i64 id, .slice a l.length cap, .int .i64 tag] 24)).alloc (.cells #[.int .i64 id, .slice a' l2.length cap', .int .i64 tag] 24)).heap.size := KA_3.out.2.2
  have z2A : w.heap.size < ((w.alloc (.cells #[.int .i64 id, .slice a l.length cap, .int .i64 tag] 24)).alloc (.cells #[.int .i64 id, .slice a' l2.length cap', .int .i64 tag] 24)).heap.size + 1 := by omega
  have xB0 : ((w.alloc (.cells #[.int .i64 id, .slice a l.length cap, .int .i64 tag] 24)).alloc (.cells #[.int .i64 id, .slice a' l2.length cap', .int .i64 tag] 24)).cell? ⟨w.heap.size + 1, 0, none⟩ = some (.int .i64 id) := KB_4.out.c 0 rfl
  have xB1 : ((w.alloc (.cells #[.int .i64 id, .slice a l.length cap, .int .i64 tag] 24)).alloc (.cells #[.int .i64 id, .slice a' l2.length cap', .int .i64 tag] 24)).cell? ⟨w.heap.size + 1, 1, none⟩ = some (.slice a' l2.length cap') := KB_4.out.c 1 rfl
  have xB2 : ((w.alloc (.cells #[.int .i64 id, .slice a l.length cap, .int .i64 tag] 24)).alloc (.cells #[.int .i64 id, .slice a' l2.length cap', .int .i64 tag] 24)).cell? ⟨w.heap.size + 1, 2, none⟩ = some (.int .i64 tag) := KB_4.out.c 2 rfl
  have zB : w.heap.size + 1 < ((w.alloc (.cells #[.int .i64 id, .slice a l.length cap, .int .i64 tag] 24)).alloc (.cells #[.int .i64 id, .slice a' l2.length cap', .int .i64 tag] 24)).heap.size := KB_4.out.2.2
  have z2B : w.heap.size + 1 < ((w.alloc (.cells #[.int .i64 id, .slice a l.length cap, .int .i64 tag] 24)).alloc (.cells #[.int .i64 id, .slice a' l2.length cap', .int .i64 tag] 24)).heap.size + 1 := by omega
  go_wp2_with fail
  clear xA0 xA1 xA2 zA z2A xB0 xB1 xB2 zB z2B
  obtain ⟨W1, hW1⟩ : ∃ W, ((w.alloc (.cells #[.int .i64 id, .slice a l.length cap, .int .i64 tag] 24)).alloc (.cells #[.int .i64 id, .slice a' l2.length cap', .int .i64 tag] 24)) = W := ⟨_, rfl⟩
  rw [hW1] at KA_3 KB_4 HB5 ⊢
  clear hW1
  go_loopw [5] (fun i wr => ∃ k : Nat, k ≤ l.length ∧ i = .int .i64 k ∧ Hid (∀ j, j < k → l.getD j zC = l2.getD j zC) ∧ Hid (Below W1.heap.size W1 wr)) (fun i _ => l.length - (intOf i).toNat)
  case atStart => exact ⟨0, by omega, rfl, fun j h => absurd h (by omega), Below.refl _ _⟩
  case round =>
    obtain ⟨k, hk, rfl, HE, HW⟩ := hrel
    have HB := Lib.hid (keep2 HW.out HB5.out)
    have KA1 := Lib.hid (KA_3.out.step HW.out)
    have KB1 := Lib.hid (KB_4.out.step HW.out)
    have y1 := KA1.out.c 1 rfl
    have yz := KA1.out.2.2
    have z1 := KB1.out.c 1 rfl
    have zz := KB1.out.2.2
    by_cases hlt : k < l.length
    · obtain ⟨a2, cap2, hva, -, -, hcs⟩ := HL.out.step HB.out
      obtain ⟨rfl, rfl⟩ : a = a2 ∧ cap = cap2 := by simpa using hva
      obtain ⟨b, off, rfl, hcs2⟩ := hcs (by intro h; rw [h] at hlt; simp at hlt)
      obtain ⟨x0, x1⟩ := hcs2 k _ (cv_get hlt)
      have hlt2 : k < l2.length := by have := hn.out; omega
      obtain ⟨a3, cap3, hvb, -, -, hct⟩ := HM.out.step HB.out
      obtain ⟨rfl, rfl⟩ : a' = a3 ∧ cap' = cap3 := by simpa using hvb
      obtain ⟨b2, off2, rfl, hct2⟩ := hct (by intro h; rw [h] at hlt2; simp at hlt2)
      obtain ⟨t0, t1⟩ := hct2 k _ (cv_get hlt2)
      clear hcs hcs2 hva hct hct2 hvb
      have HE2 := Lib.hid (show l.getD k zC = l2.getD k zC → ∀ j, j < k + 1 → l.getD j zC = l2.getD j zC from fun h0 j hj => by
        by_cases e : j = k
        · subst e; exact h0
        · exact HE.out j (by omega))
      clear HE
      have hlb : (k : Int) < (l2.length : Int) := by omega
      generalize l.getD k zC = c at *
      generalize l2.getD k zC = d at *
      obtain ⟨ck, cz⟩ := c
      obtain ⟨dk, dz⟩ := d
      simp only at x0 x1 t0 t1
      have xb := World.block_lt_of_cell? _ _ x0
      have xb : b < wr.heap.size := xb
      have tb := World.block_lt_of_cell? _ _ t0
      have tb : b2 < wr.heap.size := tb
      by_cases e1 : ck = dk
      · by_cases e2 : cz = dz
        · subst e1 e2
          have HE3 := Lib.hid (HE2.out rfl)
          clear HE2
          go_wp2_with fail
          go_quiet (fail)
          go_wp2
          go_roundw
          case rel => exact ⟨k + 1, by omega, by go_num, HE3, Lib.hid (HW.out.trans (below_drewN' _ _ _))⟩
          case measure => simp [intOf]; omega
        · subst e1
          clear HE2
          have e21 : (cz != dz) = true := by simpa using e2
          have e22 : (cz == dz) = false := by simpa using e2
          have e23 : decide (cz = dz) = false := by simpa using e2
          go_wp2_with fail
          go_quiet (fail)
          go_wp2
          go_ret
          exact ⟨rfl, HB.out.trans (below_drewN' _ _ _)⟩
      · clear HE2
        have e11 : (ck != dk) = true := by simpa using e1
        have e12 : (ck == dk) = false := by simpa using e1
        have e13 : decide (ck = dk) = false := by simpa using e1
        go_wp2_with fail
        go_quiet (fail)
        go_wp2
        go_ret
        exact ⟨rfl, HB.out.trans (below_drewN' _ _ _)⟩
    · exact absurd (cvs_ext hn.out fun j hj => HE.out j (by omega)) hd.out
theorem same_any (id tag id2 tag2 : Int) (v v2 : Value) (l l2 : List Cv) (w : World) (h : CvsAt w v l) (h2 : CvsAt w v2 l2) : Calls Try.prog 12 #[.agg #[.int .i64 id, v, .int .i64 tag], .agg #[.int .i64 id2, v2, .int .i64 tag2]] w fun e w' => ∃ b, e = .returned (.bool b) ∧ (b = true ↔ id = id2 ∧ tag = tag2 ∧ l = l2) ∧ Below w.heap.size w w' := by
  by_cases hi : id = id2
  · by_cases ht : tag = tag2
    · by_cases hl : l = l2
      · subst hi ht hl
        exact (same_yes id tag v v2 l w h h2).mono fun e w' q => ⟨true, q.1, by simp, q.2⟩
      · have hq : ∀ b, b = false → (b = true ↔ id = id2 ∧ tag = tag2 ∧ l = l2) := fun b hb => by subst hb; simp [hl]
        by_cases hn : l.length = l2.length
        · exact (same_list id tag id2 tag2 v v2 l l2 w h h2 hi ht hn hl).mono fun e w' q => ⟨false, q.1, hq _ rfl, q.2⟩
        · exact (same_len id tag id2 tag2 v v2 l l2 w h h2 hi ht hn).mono fun e w' q => ⟨false, q.1, hq _ rfl, q.2⟩
    · exact (same_tag id tag id2 tag2 v v2 l l2 w h h2 hi ht).mono fun e w' q => ⟨false, q.1, by simp [ht], q.2⟩
  · exact (same_id id tag id2 tag2 v v2 l l2 w h h2 hi).mono fun e w' q => ⟨false, q.1, by simp [hi], q.2⟩
end Go.Proofs.Ytdifgdnndmikaaa
