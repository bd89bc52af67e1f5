
/-
  CtlTells' walk. No condition.
-/
import Derived.Test.YtjkgnpgmbdkgbaaCtlV
namespace Go.Proofs.Ytjkgnpgmbdkgbaa
open Go.RowKit

set_option maxHeartbeats 2000000 in
theorem tells_early (x y : Nat) (A0 : Option Addr) (n0 c0 : Nat) (A1 : Option Addr) (n1 c1 : Nat) (w : World) (h : ¬ (n0 ≤ 1000 ∧ n1 ≤ 1000)) :
    Calls Try.prog 3 #[.int .u8 (x : Int), .int .u8 (y : Int), .slice A0 n0 c0, .slice A1 n1 c1] w fun e w' => e = .returned (.bool true) ∧ Below w.heap.size w w' := by
  have B := Lib.hid (Below.refl w.heap.size w)
  by_cases g0 : n0 ≤ 1000
  · have j0 : ¬ (1000 : Int) < (n0 : Int) := by omega
    have j1 : (1000 : Int) < (n1 : Int) := by omega
    go_enter Try.func3, Try.ntmps3
    go_wp2_with (first
      | (go_at_call 7; (with_reducible refine (speaks13 _).mono ?_); rintro e wn ⟨rfl, hb⟩; replace B := Lib.hid (B.out.trans (hb.mono B.out.size)); clear hb))
    go_ret
    exact ⟨rfl, B.out⟩
  · have j0 : (1000 : Int) < (n0 : Int) := by omega
    go_enter Try.func3, Try.ntmps3
    go_wp2_with (first
      | (go_at_call 7; (with_reducible refine (speaks13 _).mono ?_); rintro e wn ⟨rfl, hb⟩; replace B := Lib.hid (B.out.trans (hb.mono B.out.size)); clear hb))
    go_ret
    exact ⟨rfl, B.out⟩

set_option maxHeartbeats 8000000 in
theorem tells_walk (x y : Nat) (a : List Nat) (A0 : Option Addr) (n0 c0 : Nat) (b : List Nat) (A1 : Option Addr) (n1 c1 : Nat) (w : World) (hL0 : a.length = n0) (hR0 : Rd w w.heap.size A0 a) (hL1 : b.length = n1) (hc1 : n1 ≤ c1) (hB1 : By b) (hR1 : Rd w w.heap.size A1 b) (h0 : n0 ≤ 1000) (h1 : n1 ≤ 1000) :
    Calls Try.prog 3 #[.int .u8 (x : Int), .int .u8 (y : Int), .slice A0 n0 c0, .slice A1 n1 c1] w fun e w' => e = .returned (.bool true) ∧ Below w.heap.size w w' := by
  have HL0 := Lib.hid hL0
  have HR0 := Lib.hid hR0
  have HL1 := Lib.hid hL1
  have HB1 := Lib.hid hB1
  have HR1 := Lib.hid hR1
  clear hL0 hR0 hL1 hB1 hR1
  have B := Lib.hid (Below.refl w.heap.size w)
  have j0 : ¬ (1000 : Int) < (n0 : Int) := by omega
  have j1 : ¬ (1000 : Int) < (n1 : Int) := by omega
  have EP := Lib.hid (errP_ok (l := a) (by rw [HL0.out]; omega))
  have EA := Lib.hid (putA_ok x y (l := a) (by rw [HL0.out]; omega))
  obtain ⟨m, hm⟩ : ∃ m, n0 + 4 = m := ⟨_, rfl⟩
  have EL := Lib.hid (show (putB x y a).length = m by rw [put_len, HL0.out, hm])
  obtain ⟨u, v, d, q, hg⟩ : ∃ u v d q, Hid (getB b = (u, v, d, q)) := ⟨_, _, _, _, Lib.hid rfl⟩
  obtain ⟨k, hk⟩ : ∃ k, Hid (d.length = k) := ⟨_, Lib.hid rfl⟩
  obtain ⟨p, hp⟩ : ∃ p, Hid (padB b = p) := ⟨_, Lib.hid rfl⟩
  have hk9 : k ≤ 1000 := by have := (get_bytes HB1.out hg.out).2; rw [hk.out, HL1.out] at this; omega
  go_enter Try.func3, Try.ntmps3
  go_wp2_with (first
    | (go_at_call 7; (with_reducible refine (speaks13 _).mono ?_); rintro e wn ⟨rfl, hb⟩; replace B := Lib.hid (B.out.trans (hb.mono B.out.size)); (try replace X := Lib.hid (X.out.on hb)); (try replace Y := Lib.hid (Y.out.on hb)); (try replace Z := Lib.hid (Z.out.on hb)); (try replace V := Lib.hid (V.out.on hb)); clear hb)
    | (go_at_call 8; (with_reducible refine (cput_v x y a _ EP.out _ EA.out _ EL.out n0 c0 _ _ (HR0.out.on B.out) HL0.out).mono ?_); rintro e wn ⟨A4, c4, rfl, h4, hc4, hb⟩; replace B := Lib.hid (B.out.trans (hb.mono B.out.size)); (try replace X := Lib.hid (X.out.on hb)); (try replace Y := Lib.hid (Y.out.on hb)); (try replace Z := Lib.hid (Z.out.on hb)); (try replace V := Lib.hid (V.out.on hb)); have X := Lib.hid h4; clear h4; clear hb)
    | (go_at_call 9; (with_reducible refine (rput_v x y a _ EP.out _ EA.out _ EL.out n0 c0 _ _ (HR0.out.on B.out) HL0.out (by omega)).mono ?_); rintro e wn ⟨A5, c5, rfl, h5, hc5, hb⟩; replace B := Lib.hid (B.out.trans (hb.mono B.out.size)); (try replace X := Lib.hid (X.out.on hb)); (try replace Y := Lib.hid (Y.out.on hb)); (try replace Z := Lib.hid (Z.out.on hb)); (try replace V := Lib.hid (V.out.on hb)); have Y := Lib.hid h5; clear h5; clear hb)
    | (go_at_call 10; (with_reducible refine (cget_v b _ _ _ _ hg.out _ hk.out n1 c1 A1 _ (HR1.out.on B.out) HB1.out HL1.out (by omega) hc1).mono ?_); rintro e wn ⟨A6, c6, rfl, hc6, h6, hb⟩; replace B := Lib.hid (B.out.trans (hb.mono B.out.size)); (try replace X := Lib.hid (X.out.on hb)); (try replace Y := Lib.hid (Y.out.on hb)); (try replace Z := Lib.hid (Z.out.on hb)); (try replace V := Lib.hid (V.out.on hb)); have Z := Lib.hid h6; clear h6; clear hb)
    | (go_at_call 11; (with_reducible refine (rget_v b _ _ _ _ hg.out _ hk.out _ hp.out n1 c1 A1 _ (HR1.out.on B.out) HB1.out HL1.out (by omega) hc1).mono ?_); rintro e wn ⟨A7, c7, rfl, hc7, h7, hb⟩; replace B := Lib.hid (B.out.trans (hb.mono B.out.size)); (try replace X := Lib.hid (X.out.on hb)); (try replace Y := Lib.hid (Y.out.on hb)); (try replace Z := Lib.hid (Z.out.on hb)); (try replace V := Lib.hid (V.out.on hb)); have V := Lib.hid h7; clear h7; clear hb)
    | (go_at_call 12; (with_reducible refine (equal_yes (putB x y a) (putB x y a) m m _ _ _ _ _ X.out Y.out EL.out EL.out (by omega) rfl).mono ?_); rintro e wn ⟨rfl, hb⟩; replace B := Lib.hid (B.out.trans (hb.mono B.out.size)); (try replace X := Lib.hid (X.out.on hb)); (try replace Y := Lib.hid (Y.out.on hb)); (try replace Z := Lib.hid (Z.out.on hb)); (try replace V := Lib.hid (V.out.on hb)); clear hb)
    | (go_at_call 12; (with_reducible refine (equal_yes d d k k _ _ _ _ _ Z.out V.out hk.out hk.out (by omega) rfl).mono ?_); rintro e wn ⟨rfl, hb⟩; replace B := Lib.hid (B.out.trans (hb.mono B.out.size)); (try replace X := Lib.hid (X.out.on hb)); (try replace Y := Lib.hid (Y.out.on hb)); (try replace Z := Lib.hid (Z.out.on hb)); (try replace V := Lib.hid (V.out.on hb)); clear hb)
    | (go_at_call 13; (with_reducible refine (pad_any b n1 c1 A1 _ (HR1.out.on B.out) HB1.out HL1.out (by omega) _ hp.out).mono ?_); rintro e wn ⟨rfl, hb⟩; replace B := Lib.hid (B.out.trans (hb.mono B.out.size)); (try replace X := Lib.hid (X.out.on hb)); (try replace Y := Lib.hid (Y.out.on hb)); (try replace Z := Lib.hid (Z.out.on hb)); (try replace V := Lib.hid (V.out.on hb)); clear hb))
  go_ret
  exact ⟨rfl, B.out⟩
end Go.Proofs.Ytjkgnpgmbdkgbaa
