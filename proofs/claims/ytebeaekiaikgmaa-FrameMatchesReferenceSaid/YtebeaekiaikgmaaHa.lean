/- Frames: 'head'. -/
import Derived.Test.YtebeaekiaikgmaaFm
import Derived.Test.YtebeaekiaikgmaaXf
import Derived.Test.YtebeaekiaikgmaaFj
import Derived.Test.YtebeaekiaikgmaaIv
set_option pp.deepTerms true
set_option pp.maxSteps 1000000
namespace Go.Proofs.Ytebeaekiaikgmaa
open Go.RowKit

def upv (vs : Nat → Value) (i : Nat) (x : Value) : Nat → Value := fun k => cond (k == i) x (vs k)
theorem upv_same (vs : Nat → Value) (i : Nat) (x : Value) : upv vs i x i = x := by simp [upv]
theorem upv_ne (vs : Nat → Value) (i k : Nat) (x : Value) (h : k ≠ i) : upv vs i x k = vs k := by
  have : (k == i) = false := by simp [h]
  simp [upv, this]
/-- A region that only makes memory: what each operation's value is. -/
def RS (lit : (Nat → Value) → Act) (W : World) (G : Nat → Value → World → Prop) (bf : Nat → Bool) (ac : Act) (wv : World) : Prop :=
  ∃ vs, ac = lit vs ∧ Below W.heap.size W wv ∧ ∀ i, bf i = true → G i (vs i) wv
theorem RS.next {lit : (Nat → Value) → Act} {W : World} {G : Nat → Value → World → Prop} {bf : Nat → Bool} {wv : World} {vs : Nat → Value} (i : Nat) {x : Value} {w' : World} {ac' : Act} (hac : ac' = lit (upv vs i x))
    (k : ∀ i, bf i = true → G i (vs i) wv) (hb : Below W.heap.size W w') (hs : ∀ k v, G k v wv → G k v w') (hx : G i x w') : RS lit W G (up bf i) ac' w' := by
  refine ⟨upv vs i x, hac, hb, fun j hu => ?_⟩
  by_cases e : j = i
  · subst e; rw [upv_same]; exact hx
  · rw [up_ne _ _ _ e] at hu; rw [upv_ne _ _ _ _ e]; exact hs _ _ (k j hu)
theorem bys_lit (W : World) (l : List Int) (cs : Array Value) (t : TypeId) (hc : cs.toList = l.map (.int .u8)) (hm : l.length ≤ 1000) (n : Nat) (hn : n = l.length) (b : Nat) (hb : b = W.heap.size) : BysAt (W.alloc (.cells cs t)) (.slice (some ⟨b, 0, none⟩) n n) l := by
  subst hn hb
  refine ⟨_, _, rfl, Nat.le_refl _, by unfold maxLen; omega, fun _ => ⟨W.heap.size, 0, rfl, fun i x hi => ?_⟩⟩
  rw [cell_new' W cs t _ (by rfl), ← Array.getElem?_toList, hc, List.getElem?_map, Nat.zero_add]
  simp [hi]
theorem xT : tgF 9 1 2 3 4 [-5, 1000000000] = 211727416 := by decide +kernel
theorem xE : (encF 1 2 3 4 [-5, 1000000000] 211727416).getD 16 0 = ((2 : Nat) : Int) ∧ (encF 1 2 3 4 [-5, 1000000000] 211727416).length = 23 + 4 * 2 ∧ decE (encF 1 2 3 4 [-5, 1000000000] 211727416) 2 = (encF 1 2 3 4 [-5, 1000000000] 211727416) ∧ num4 (encF 1 2 3 4 [-5, 1000000000] 211727416) 0 = 1 ∧ num4 (encF 1 2 3 4 [-5, 1000000000] 211727416) 4 = 2 ∧ num4 (encF 1 2 3 4 [-5, 1000000000] 211727416) 8 = 3 ∧ num4 (encF 1 2 3 4 [-5, 1000000000] 211727416) 12 = 4 ∧ bodyL (encF 1 2 3 4 [-5, 1000000000] 211727416) 2 = [-5, 1000000000] ∧ num4 (encF 1 2 3 4 [-5, 1000000000] 211727416) (17 + 4 * 2) = 211727416 := by decide +kernel
theorem xV : vaB 1 2 3 4 [-5, 1000000000] 211727416 = true ∧ vaB 1 2 4 4 [-5, 1000000000] 211727416 = true ∧ vaB 1 2 3 4 [] 0 = true ∧ vaB (-1) 0 0 0 [] 0 = false ∧ tgB 9 = true ∧ tgB 8 = true := by decide +kernel
theorem xO : (211727416 : Int) ≠ tgF 8 1 2 3 4 [-5, 1000000000] ∧ (211727416 : Int) ≠ tgF 9 1 2 4 4 [-5, 1000000000] ∧ Dg (9 :: (([1, 2, 3, 4, 2, -5, 1000000000] : List Int).length : Int) :: [1, 2, 3, 4, 2, -5, 1000000000]) = 211727416 ∧ encF 1 2 3 4 [] 0 = [0, 0, 0, 1, 0, 0, 0, 2, 0, 0, 0, 3, 0, 0, 0, 4, 0, 0, 0, 0, 0, 0, 10] ∧ sameB 1 2 3 4 [-5, 1000000000] 211727416 1 2 3 4 [-5, 1000000000] 211727416 = true := by decide +kernel
theorem xdec (v : Value) (w : World) (h : BysAt w v (encF 1 2 3 4 [-5, 1000000000] 211727416)) : Calls Try.prog 13 #[v] w (DcP w 1 2 3 4 [-5, 1000000000] 211727416 0) := by
  obtain ⟨h1, h2, h3, h4, h5, h6, h7, h8, h9⟩ := xE
  refine (decode_main v _ w h (encF_by _ _ _ _ _ _) (by rw [h2]; decide) 2 h1 h2).mono fun e w' hq => ?_
  unfold DcQ at hq
  rw [if_pos h3, h4, h5, h6, h7, h8, h9] at hq
  exact hq
def q0 : List Bool := List.replicate 16 false
def q1 : List Bool := accL (-1) q0 0
def q2 : List Bool := accL 0 q1 20
def q3 : List Bool := accL 20 q2 5
theorem xacc : accT (-1) q0 0 = 0 ∧ accE (-1) q0 0 = 0 ∧ accT 0 q1 20 = 20 ∧ accE 0 q1 20 = 0 ∧ accT 20 q2 5 = 20 ∧ accE 20 q2 5 = 0 ∧ accT 20 q3 4 = 20 ∧ accE 20 q3 4 = 16 ∧ accT 20 q3 20 = 20 ∧ accE 20 q3 20 = 16 := by decide +kernel
theorem xsame : accL 20 q3 4 = q3 ∧ accL 20 q3 20 = q3 := by decide +kernel
theorem xget : q1.getD 0 false = true ∧ q2.getD 15 false = false ∧ q3.getD 15 false = true := by decide +kernel
theorem q_wf : WF (-1) q0 ∧ WF 0 q1 ∧ WF 20 q2 ∧ WF 20 q3 := by
  have h0 : WF (-1) q0 := wf_new
  have h1 := wf_acc 0 h0
  rw [xacc.1] at h1
  have h2 := wf_acc 20 (show WF 0 q1 from h1)
  rw [xacc.2.2.1] at h2
  have h3 := wf_acc 5 (show WF 20 q2 from h2)
  rw [xacc.2.2.2.2.1] at h3
  exact ⟨h0, h1, h2, h3⟩
theorem AcP.at {w : World} {t er : Int} {L : List Bool} {e : Ending} {w' : World} (h : AcP w t L er e w') (hl : L.length = 16) : ∃ (b off c : Nat), e = .returned (.tuple #[.agg #[.int .i64 t, .slice (some ⟨b, off, none⟩) 16 c], .int .i64 er]) ∧ 16 ≤ c ∧ BosAt w' (.slice (some ⟨b, off, none⟩) 16 c) L ∧ Below w.heap.size w w' := by
  obtain ⟨aa, cc, h1, h2, h3, h4⟩ := h
  rw [hl] at h1 h2 h3
  have h5 := h3
  obtain ⟨a, c, he, -, hx⟩ := h5
  obtain ⟨b, off, ha, -⟩ := hx (by intro e; rw [e] at hl; simp at hl)
  obtain ⟨rfl, -, rfl⟩ : aa = a ∧ 16 = L.length ∧ cc = c := by simpa using he
  subst ha
  exact ⟨b, off, cc, h1, h2, h3, h4⟩
theorem bos_at {w : World} {b off n c : Nat} {L : List Bool} (h : BosAt w (.slice (some ⟨b, off, none⟩) n c) L) (j : Nat) (hj : j < L.length) : w.cell? ⟨b, off + j, none⟩ = some (.bool (L.getD j false)) := by
  obtain ⟨a, cap, he, -, hx⟩ := h
  obtain ⟨b', o', ha, hc⟩ := hx (by intro e; rw [e] at hj; simp at hj)
  obtain ⟨rfl, rfl⟩ : b = b' ∧ off = o' := by
    rw [ha] at he
    have h1 : (some (⟨b, off, none⟩ : Addr)) = some ⟨b', o', none⟩ := by simp at he; simp [he]
    simpa using h1
  exact hc j _ (bo_get hj)
theorem acc_any (t : Int) (b off c : Nat) (L : List Bool) (s : Int) (w : World) (h : BosAt w (.slice (some ⟨b, off, none⟩) 16 c) L) (hw : WF t L) (hc : 16 ≤ c) (t' e' : Int) (L' : List Bool) (h1 : accT t L s = t') (h2 : accL t L s = L') (h3 : accE t L s = e') :
    Calls Try.prog 15 #[.agg #[.int .i64 t, .slice (some ⟨b, off, none⟩) 16 c], .int .i64 s] w fun e w' => ∃ (b' off' c' : Nat), e = .returned (.tuple #[.agg #[.int .i64 t', .slice (some ⟨b', off', none⟩) 16 c'], .int .i64 e']) ∧ 16 ≤ c' ∧ BosAt w' (.slice (some ⟨b', off', none⟩) 16 c') L' ∧ Below w.heap.size w w' := by
  subst h1 h2 h3
  exact (accept_wf t _ c L s w h hw hc).mono fun e w' q => q.at (wf_acc s hw).1
theorem isw_len (t : Int) (a : Option Addr) (n c : Nat) (L : List Bool) (hl : L.length = n) (hn : n ≠ 16) (h9 : n ≤ 100000) : IsW t a n c L false := by
  intro W hb
  have HC0 := Lib.hid (Cs.new W W.heap.size #[.int .i64 t, .slice a n c] 28 rfl)
  have HB0 := Lib.hid (al W (.cells #[.int .i64 t, .slice a n c] 28))
  have x0 := HC0.out.c 0 rfl
  have x1 := HC0.out.c 1 rfl
  have xz := HC0.out.2.2
  have g1 : ((n : Int) == 16) = false := by simp; omega
  have g2 : ((n : Int) != 16) = true := by simp; omega
  have g3 : ((n : Int) = 16) = False := by simp; omega
  have g4 : (n == 16) = false := by simp; omega
  clear hb hl hn
  go_enter Try.func43, Try.ntmps43
  go_wp2
  go_ret
  exact ⟨rfl, HB0.out⟩
end Go.Proofs.Ytebeaekiaikgmaa
