/- The contract of 'head'. -/
import Derived.Test.YtloilkfloidnjaaM
namespace Go.Proofs.Ytloilkfloidnjaa
open Go.RowKit Go.WideMaps

def pw : ByteArray := ⟨#[112, 111, 119, 101, 114]⟩
def bLamp : ByteArray := ⟨#[108, 97, 109, 112]⟩
def bHeater : ByteArray := ⟨#[104, 101, 97, 116, 101, 114]⟩
def bOn : ByteArray := ⟨#[111, 110]⟩
def bOff : ByteArray := ⟨#[111, 102, 102]⟩
def bDim : ByteArray := ⟨#[100, 105, 109]⟩
def bEvening : ByteArray := ⟨#[101, 118, 101, 110, 105, 110, 103]⟩
def bAway : ByteArray := ⟨#[97, 119, 97, 121]⟩
def bFilm : ByteArray := ⟨#[102, 105, 108, 109]⟩
def bNight : ByteArray := ⟨#[110, 105, 103, 104, 116]⟩
def mkS (d n : ByteArray) : Sett := ⟨d, pw, n, 0, ⟨#[]⟩⟩
def exL : List Scn := [⟨bEvening, 1, [mkS bLamp bOn, mkS bHeater bOn]⟩, ⟨bAway, 5, [mkS bLamp bOff]⟩, ⟨bFilm, 1, [mkS bLamp bDim]⟩]
theorem setting_any (d n : ByteArray) (w : World) : Calls Try.prog 23 #[.string d, .string n] w fun e w' =>
    e = .returned (.agg #[.string d, .string ⟨#[112, 111, 119, 101, 114]⟩, .string n, .int .i64 0, .string ⟨#[]⟩]) ∧ Below w.heap.size w w' := by
  go_enter Try.func23, Try.ntmps23
  go_wp2
  refine bodyPost_ret (v := .agg #[.string d, .string ⟨#[112, 111, 119, 101, 114]⟩, .string n, .int .i64 0, .string ⟨#[]⟩]) (by simp [results, Try.results23, go_sem]) rfl ⟨rfl, ?_⟩
  exact (Below.refl _ _).alloc (Nat.le_refl _) _
theorem scs_len (l : List Sett) : (scs l).length = l.length * 5 := by
  induction l with
  | nil => rfl
  | cons x l ih =>
    have : scs (x :: l) = x.cells ++ scs l := by simp [scs]
    rw [this, List.length_append, ih, List.length_cons]
    simp [Sett.cells]; omega
theorem setts_lit (W : World) (l : List Sett) (cs : Array Value) (hc : cs.toList = scs l) (hm : l.length ≤ 1000) (n : Nat) (hn : n = l.length) : SettsAt (W.alloc (.cells cs 40)) (.slice (some ⟨W.heap.size, 0, none⟩) n n) l := by
  subst hn
  refine setts_of_row (base := 0) (by unfold maxLen; omega) ?_
  rw [← hc]
  have hs : cs.size = l.length * 5 := by
    rw [← Array.length_toList, hc]
    exact scs_len l
  exact World.ownsRow_lit W cs l.length (by omega) (by unfold maxLen; omega) hs
theorem names_lit (W : World) (l : List ByteArray) (cs : Array Value) (hc : cs.toList = l.map .string) (hm : l.length ≤ 1000) (n : Nat) (hn : n = l.length) : NamesAt (W.alloc (.cells cs 9)) (.slice (some ⟨W.heap.size, 0, none⟩) n n) l := by
  subst hn
  refine ⟨_, _, rfl, by unfold maxLen; omega, fun _ => ⟨W.heap.size, 0, rfl, fun i x hi => ?_⟩⟩
  rw [cell_new' W cs 9 _ rfl, ← Array.getElem?_toList, hc, List.getElem?_map]
  simp [hi]
set_option maxRecDepth 100000 in
set_option maxHeartbeats 4000000 in
theorem example_any (w : World) : Calls Try.prog 22 #[] w fun e w' => ∃ a, e = .returned (.slice a exL.length 3) ∧ ScnsAt w' (.slice a exL.length 3) exL ∧ Below w.heap.size w w' := by
  go_enter Try.func22, Try.ntmps22
  go_wp2_with fail
  refine (setting_any _ _ _).mono ?_
  rintro e w1 ⟨rfl, b1⟩
  go_wp2_with fail
  refine (setting_any _ _ _).mono ?_
  rintro e w2 ⟨rfl, b2⟩
  go_wp2_with fail
  refine (setting_any _ _ _).mono ?_
  rintro e w3 ⟨rfl, b3⟩
  go_wp2_with fail
  refine (setting_any _ _ _).mono ?_
  rintro e w4 ⟨rfl, b4⟩
  go_wp2
  go_ret
  have s1 := setts_lit w2 [mkS bLamp bOn, mkS bHeater bOn] #[.string ⟨#[108, 97, 109, 112]⟩, .string ⟨#[112, 111, 119, 101, 114]⟩, .string ⟨#[111, 110]⟩, .int .i64 0, .string ⟨#[]⟩, .string ⟨#[104, 101, 97, 116, 101, 114]⟩, .string ⟨#[112, 111, 119, 101, 114]⟩, .string ⟨#[111, 110]⟩, .int .i64 0, .string ⟨#[]⟩] rfl (by decide) 2 rfl
  have s2 := setts_lit w3 [mkS bLamp bOff] #[.string ⟨#[108, 97, 109, 112]⟩, .string ⟨#[112, 111, 119, 101, 114]⟩, .string ⟨#[111, 102, 102]⟩, .int .i64 0, .string ⟨#[]⟩] rfl (by decide) 1 rfl
  have s3 := setts_lit w4 [mkS bLamp bDim] #[.string ⟨#[108, 97, 109, 112]⟩, .string ⟨#[112, 111, 119, 101, 114]⟩, .string ⟨#[100, 105, 109]⟩, .int .i64 0, .string ⟨#[]⟩] rfl (by decide) 1 rfl
  have e5 : Below (w4.alloc (.cells #[.string ⟨#[108, 97, 109, 112]⟩, .string ⟨#[112, 111, 119, 101, 114]⟩, .string ⟨#[100, 105, 109]⟩, .int .i64 0, .string ⟨#[]⟩] 40)).heap.size (w4.alloc (.cells #[.string ⟨#[108, 97, 109, 112]⟩, .string ⟨#[112, 111, 119, 101, 114]⟩, .string ⟨#[100, 105, 109]⟩, .int .i64 0, .string ⟨#[]⟩] 40)) _ := (Below.refl _ _).alloc (Nat.le_refl _) (.cells #[.string ⟨#[101, 118, 101, 110, 105, 110, 103]⟩, .int .i64 1, .slice (some ⟨w2.heap.size, 0, none⟩) 2 2, .string ⟨#[97, 119, 97, 121]⟩, .int .i64 5, .slice (some ⟨w3.heap.size, 0, none⟩) 1 1, .string ⟨#[102, 105, 108, 109]⟩, .int .i64 1, .slice (some ⟨w4.heap.size, 0, none⟩) 1 1] 44)
  have e4 := keep2 e5 ((Below.refl w4.heap.size w4).alloc (Nat.le_refl _) _)
  have f4 := keep2 e4 b4
  have f3 := keep2 f4 ((Below.refl w3.heap.size w3).alloc (Nat.le_refl _) _)
  have g3 := keep2 f3 b3
  have g2 := keep2 g3 ((Below.refl w2.heap.size w2).alloc (Nat.le_refl _) _)
  refine ⟨_, rfl, ⟨_, _, rfl, by decide, fun _ => ⟨w4.heap.size + 1, 0, rfl, ?_⟩⟩, keep2 (keep2 g2 b2) b1⟩
  have hc := fun j => cell_new' (w4.alloc (.cells #[.string ⟨#[108, 97, 109, 112]⟩, .string ⟨#[112, 111, 119, 101, 114]⟩, .string ⟨#[100, 105, 109]⟩, .int .i64 0, .string ⟨#[]⟩] 40)) #[.string ⟨#[101, 118, 101, 110, 105, 110, 103]⟩, .int .i64 1, .slice (some ⟨w2.heap.size, 0, none⟩) 2 2, .string ⟨#[97, 119, 97, 121]⟩, .int .i64 5, .slice (some ⟨w3.heap.size, 0, none⟩) 1 1, .string ⟨#[102, 105, 108, 109]⟩, .int .i64 1, .slice (some ⟨w4.heap.size, 0, none⟩) 1 1] 44 (w4.heap.size + 1) (by simp) j
  intro i x hi
  match i, hi with
  | 0, hi => cases hi; exact ⟨hc 0, hc 1, _, hc 2, s1.step g3⟩
  | 1, hi => cases hi; exact ⟨hc 3, hc 4, _, hc 5, s2.step f4⟩
  | 2, hi => cases hi; exact ⟨hc 6, hc 7, _, hc 8, s3.step e5⟩
  | i + 3, hi => simp [exL] at hi
end Go.Proofs.Ytloilkfloidnjaa
