/- Beliefs: the examples of 'head'. -/
import Derived.Test.YtigpopemllamdaaAp
namespace Go.Proofs.Ytigpopemllamdaa
open Go.RowKit

theorem snE_W (V : List Int) (L : List Od) (o : Od) : snE V L o = if isW V L = true then sdE L o else 1 := by unfold snE; rw [isV_W]
theorem cnE_W (V : List Int) (L : List Od) (q : Int) : cnE V L q = if isW V L = true then cfE q L else 1 := by unfold cnE; rw [isV_W]
theorem rnE_W (V : List Int) (L : List Od) (v t : Int) : rnE V L v t = if isW V L = true then rpE V L v t else 1 := by unfold rnE; rw [isV_W]
theorem rV_W {E : Int} {M : List Od} (hE : E = 0) (h : ∀ o ∈ M, 0 ≤ o.d ∧ o.d < 16) : rV E M = rvl M := by unfold rV; rw [if_pos hE, vof_rvl h]
theorem rM_W {E : Int} (M : List Od) (hE : E = 0) : rM E M = M := by unfold rM; rw [if_pos hE]
def mA : List Od := kM 0 ++ [⟨1, 0, 0, 2⟩]
def vA : List Int := rvl mA
def mB : List Od := mA ++ [⟨2, 0, 0, 3⟩]
def vB : List Int := rvl mB
def mC : List Od := cfM 2 mB
def vC : List Int := rvl mC
def mD : List Od := cfM 1 mC
def vD : List Int := rvl mD
def mX : List Od := cfM 1 mA
def vX : List Int := rvl mX
def mY : List Od := mA ++ [⟨17, 0, 0, 3⟩]
def vY : List Int := rvl mY
def mZ : List Od := cfM 17 mY
def vZ : List Int := rvl mZ
def mW : List Od := rpM mB 3 2
def vW : List Int := rvl mW
theorem mlen : ((kM 0).length ≤ 300 ∧ (kV 0).length ≤ 300 ∧ mA.length ≤ 300 ∧ vA.length ≤ 300) ∧ mB.length ≤ 300 ∧ vB.length ≤ 300 ∧ mC.length ≤ 300 ∧ vC.length ≤ 300 ∧ mY.length ≤ 300 ∧ vY.length ≤ 300 := by decide +kernel
theorem vals : (vA = [0, 2] ∧ vB = [0, 2, 3] ∧ vC = [2, 3] ∧ vD = [2, 3]) ∧ vX = [2] ∧ vZ = [3] ∧ vW = [3] ∧ mD.length = 2 := by decide +kernel
theorem head_a (w : World) (ua : Option Addr) (uc : Nat) (fa : Option Addr) (fc : Nat) (h : Rb (kV 0) (kM 0) ua uc fa fc w) :
    Calls Try.prog 11 #[.agg #[.slice ua (kV 0).length uc, .slice fa (kM 0).length fc], .agg #[.int .i64 1, .int .i64 0, .int .i64 0, .int .i64 2]] w (ChQ vA mA 0 w) :=
  sent_q ⟨1, 0, 0, 2⟩ (by rw [snE_W]; decide +kernel) (rV_W rfl (by decide +kernel)) (rM_W _ rfl) ua uc fa fc w h mlen.1.1 mlen.1.2.1
theorem head_b (w : World) (ua : Option Addr) (uc : Nat) (fa : Option Addr) (fc : Nat) (h : Rb vA mA ua uc fa fc w) :
    Calls Try.prog 11 #[.agg #[.slice ua vA.length uc, .slice fa mA.length fc], .agg #[.int .i64 2, .int .i64 0, .int .i64 0, .int .i64 3]] w (ChQ vB mB 0 w) :=
  sent_q ⟨2, 0, 0, 3⟩ (by rw [snE_W]; decide +kernel) (rV_W rfl (by decide +kernel)) (rM_W _ rfl) ua uc fa fc w h mlen.1.2.2.1 mlen.1.2.2.2
theorem head_y (w : World) (ua : Option Addr) (uc : Nat) (fa : Option Addr) (fc : Nat) (h : Rb vA mA ua uc fa fc w) :
    Calls Try.prog 11 #[.agg #[.slice ua vA.length uc, .slice fa mA.length fc], .agg #[.int .i64 17, .int .i64 0, .int .i64 0, .int .i64 3]] w (ChQ vY mY 0 w) :=
  sent_q ⟨17, 0, 0, 3⟩ (by rw [snE_W]; decide +kernel) (rV_W rfl (by decide +kernel)) (rM_W _ rfl) ua uc fa fc w h mlen.1.2.2.1 mlen.1.2.2.2
theorem head_c (w : World) (ua : Option Addr) (uc : Nat) (fa : Option Addr) (fc : Nat) (h : Rb vB mB ua uc fa fc w) :
    Calls Try.prog 13 #[.agg #[.slice ua vB.length uc, .slice fa mB.length fc], .int .i64 2] w (ChQ vC mC 0 w) :=
  confirmed_q 2 (by rw [cnE_W]; decide +kernel) (rV_W rfl (by decide +kernel)) (rM_W _ rfl) ua uc fa fc w h mlen.2.1 mlen.2.2.1
theorem head_d (w : World) (ua : Option Addr) (uc : Nat) (fa : Option Addr) (fc : Nat) (h : Rb vC mC ua uc fa fc w) :
    Calls Try.prog 13 #[.agg #[.slice ua vC.length uc, .slice fa mC.length fc], .int .i64 1] w (ChQ vD mD 0 w) :=
  confirmed_q 1 (by rw [cnE_W]; decide +kernel) (rV_W rfl (by decide +kernel)) (rM_W _ rfl) ua uc fa fc w h mlen.2.2.2.1 mlen.2.2.2.2.1
theorem head_x (w : World) (ua : Option Addr) (uc : Nat) (fa : Option Addr) (fc : Nat) (h : Rb vA mA ua uc fa fc w) :
    Calls Try.prog 13 #[.agg #[.slice ua vA.length uc, .slice fa mA.length fc], .int .i64 1] w (ChQ vX mX 0 w) :=
  confirmed_q 1 (by rw [cnE_W]; decide +kernel) (rV_W rfl (by decide +kernel)) (rM_W _ rfl) ua uc fa fc w h mlen.1.2.2.1 mlen.1.2.2.2
theorem head_z (w : World) (ua : Option Addr) (uc : Nat) (fa : Option Addr) (fc : Nat) (h : Rb vY mY ua uc fa fc w) :
    Calls Try.prog 13 #[.agg #[.slice ua vY.length uc, .slice fa mY.length fc], .int .i64 17] w (ChQ vZ mZ 0 w) :=
  confirmed_q 17 (by rw [cnE_W]; decide +kernel) (rV_W rfl (by decide +kernel)) (rM_W _ rfl) ua uc fa fc w h mlen.2.2.2.2.2.1 mlen.2.2.2.2.2.2
theorem head_m (w : World) (ua : Option Addr) (uc : Nat) (fa : Option Addr) (fc : Nat) (h : Rb vA mA ua uc fa fc w) :
    Calls Try.prog 13 #[.agg #[.slice ua vA.length uc, .slice fa mA.length fc], .int .i64 2] w (ChQ [] [] 27 w) :=
  confirmed_q 2 (by rw [cnE_W]; decide +kernel) (by rfl) (by rfl) ua uc fa fc w h mlen.1.2.2.1 mlen.1.2.2.2
theorem head_w (w : World) (ua : Option Addr) (uc : Nat) (fa : Option Addr) (fc : Nat) (h : Rb vB mB ua uc fa fc w) :
    Calls Try.prog 15 #[.agg #[.slice ua vB.length uc, .slice fa mB.length fc], .int .i64 3, .int .i64 2] w (ChQ vW mW 0 w) :=
  reported_q 3 2 (by rw [rnE_W]; decide +kernel) (rV_W rfl (by decide +kernel)) (rM_W _ rfl) ua uc fa fc w h mlen.2.1 mlen.2.2.1
theorem head_s (w : World) (ua : Option Addr) (uc : Nat) (s : Value) (h : IntsAt w (.slice ua vZ.length uc) vZ) :
    Calls Try.prog 17 #[.agg #[.slice ua vZ.length uc, s]] w fun e w' => e = .returned (.tuple #[.int .i64 3, .bool true]) ∧ Below w.heap.size w w' := by
  refine (surely_any _ s vZ w h (by rw [vals.2.2.1]; decide)).mono ?_
  rintro e w' ⟨rfl, b⟩
  exact ⟨by rw [vals.2.2.1]; rfl, b⟩
theorem head_i (u v : Value) (V V' : List Int) (w : World) (e : V = V') (h : IntsAt w u V) (h' : IntsAt w v V') : Calls Try.prog 33 #[u, v] w fun e w' => e = .returned (.bool true) ∧ Below w.heap.size w w' := by
  refine (ints_b u v V V' w h h').mono ?_
  rintro e w' ⟨rfl, b⟩
  exact ⟨by rw [decide_eq_true e], b⟩
theorem head_n (u s : Value) (x : Int) (r : Bool) (w : World) (hr : vC.contains x = r) (h : IntsAt w u vC) : Calls Try.prog 20 #[.agg #[u, s], .int .i64 x] w fun e w' => e = .returned (.bool r) ∧ Below w.heap.size w w' := by
  refine (can_any u s vC x w h (by rw [vals.1.2.2.1]; decide)).mono ?_
  rintro e w' ⟨rfl, b⟩
  exact ⟨by rw [hr], b⟩
theorem ints_w {w : World} {l : List Int} {cs : Array Value} (hc : cs.toList = l.map (.int .i64)) (hm : l.length ≤ 1000) {n : Nat} (hn : n = l.length) {b : Nat} (hb : Cs w b cs) : IntsAt w (.slice (some ⟨b, 0, none⟩) n n) l := by
  subst hn
  refine ⟨_, _, rfl, by unfold maxLen; omega, fun _ => ⟨b, 0, rfl, fun i x hi => ?_⟩⟩
  rw [Nat.zero_add]
  refine hb.c i ?_
  rw [← Array.getElem?_toList, hc, List.getElem?_map, hi]
  rfl
end Go.Proofs.Ytigpopemllamdaa
