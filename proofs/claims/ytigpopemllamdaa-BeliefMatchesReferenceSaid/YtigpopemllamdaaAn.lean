/- Beliefs: the changes as closures. -/
import Derived.Test.YtigpopemllamdaaAm
namespace Go.Proofs.Ytigpopemllamdaa
open Go.RowKit

set_option maxRecDepth 100000 in
set_option maxHeartbeats 8000000 in
theorem sent1_any (k ko : Nat) (v1 : Value) (sa : Option Addr) (sc : Nat) (L : List Od) (o : Od) (w : World) (hO : Cs w ko #[.int .i64 o.a, .int .i64 o.b, .int .i64 o.c, .int .i64 o.d]) (hC : Cs w k #[v1, .slice sa L.length sc]) (h : OdsAt w (.slice sa L.length sc) L) (h9 : L.length ≤ 1000) :
    Calls Try.prog 38 #[.pointer (some ⟨k, 0, none⟩), .pointer (some ⟨ko, 0, none⟩)] w (Done k w (sdE L o) (L ++ [o])) := by
  have HC := Lib.hid hC
  have HL := Lib.hid h
  have H9 := Lib.hid h9
  have o0 := hO.c 0 rfl
  have o1 := hO.c 1 rfl
  have o2 := hO.c 2 rfl
  have o3 := hO.c 3 rfl
  have oz := hO.2.2
  clear hC h hO h9
  go_enter Try.func38, Try.ntmps38
  go_wp2_with fail
  refine (send_any k v1 sa sc L o _ HC.out HL.out H9.out).mono ?_
  rintro e w2 ⟨rfl, h1, h2⟩
  have H1 := Lib.hid h1
  have H2 := Lib.hid h2
  clear h1 h2
  go_wp2
  go_ret
  exact ⟨rfl, H1.out, H2.out⟩
set_option maxRecDepth 100000 in
set_option maxHeartbeats 8000000 in
theorem confirmed1_any (k ko : Nat) (v1 : Value) (sa : Option Addr) (sc : Nat) (L : List Od) (seq : Int) (w : World) (hO : Cs w ko #[.int .i64 seq]) (hC : Cs w k #[v1, .slice sa L.length sc]) (h : OdsAt w (.slice sa L.length sc) L) (h9 : L.length ≤ 300) (hb9 : ∀ x ∈ L, -1000 ≤ x.a ∧ x.a ≤ 1000000000) :
    Calls Try.prog 43 #[.pointer (some ⟨k, 0, none⟩), .pointer (some ⟨ko, 0, none⟩)] w (Done k w (cfE seq L) (cfM seq L)) := by
  have HC := Lib.hid hC
  have HL := Lib.hid h
  have H9 := Lib.hid h9
  have HV := Lib.hid hb9
  have o0 := hO.c 0 rfl
  have oz := hO.2.2
  clear hC h hO h9 hb9
  go_enter Try.func43, Try.ntmps43
  go_wp2_with fail
  refine (confirm_any k v1 sa sc L seq _ HC.out HL.out H9.out HV.out).mono ?_
  rintro e w2 ⟨rfl, h1, h2⟩
  have H1 := Lib.hid h1
  have H2 := Lib.hid h2
  clear h1 h2
  go_wp2
  go_ret
  exact ⟨rfl, H1.out, H2.out⟩
set_option maxRecDepth 100000 in
set_option maxHeartbeats 8000000 in
theorem reported1_any (k k1 k2 : Nat) (va : Option Addr) (vc : Nat) (V : List Int) (sa : Option Addr) (sc : Nat) (L : List Od) (v t : Int) (w : World) (hO : Cs w k1 #[.int .i64 v]) (hP : Cs w k2 #[.int .i64 t]) (hC : Cs w k #[.slice va V.length vc, .slice sa L.length sc]) (h : OdsAt w (.slice sa L.length sc) L) (hV : IntsAt w (.slice va V.length vc) V) (h9 : L.length ≤ 300) (h8 : V.length ≤ 300) :
    Calls Try.prog 45 #[.pointer (some ⟨k, 0, none⟩), .pointer (some ⟨k1, 0, none⟩), .pointer (some ⟨k2, 0, none⟩)] w (Done k w (rpE V L v t) (rpM L v t)) := by
  have HC := Lib.hid hC
  have HL := Lib.hid h
  have HV := Lib.hid hV
  have H9 := Lib.hid h9
  have H8 := Lib.hid h8
  have o0 := hO.c 0 rfl
  have oz := hO.2.2
  have p0 := hP.c 0 rfl
  have pz := hP.2.2
  clear hC h hO hP h9 hV h8
  go_enter Try.func45, Try.ntmps45
  go_wp2_with fail
  refine (report_any k va vc V sa sc L v t _ HC.out HL.out HV.out H9.out H8.out).mono ?_
  rintro e w2 ⟨rfl, h1, h2⟩
  have H1 := Lib.hid h1
  have H2 := Lib.hid h2
  clear h1 h2
  go_wp2
  go_ret
  exact ⟨rfl, H1.out, H2.out⟩
end Go.Proofs.Ytigpopemllamdaa
