
/-
  CtlOne's walk. No condition.
-/
import Derived.Test.YtjkgnpgmbdkgbaaCtlV
namespace Go.Proofs.Ytjkgnpgmbdkgbaa
open Go.RowKit

set_option maxHeartbeats 2000000 in
theorem one_early (A : Option Addr) (n c : Nat) (w : World) (h : ¬ (n ≤ 1000)) :
    Calls Try.prog 6 #[.slice A n c] w fun e w' => e = .returned (.bool true) ∧ Below w.heap.size w w' := by
  have B := Lib.hid (Below.refl w.heap.size w)
  have j0 : (1000 : Int) < (n : Int) := by omega
  go_enter Try.func6, Try.ntmps6
  go_wp2_with (first
    | (go_at_call 7; (with_reducible refine (speaks13 _).mono ?_); rintro e wn ⟨rfl, hb⟩; replace B := Lib.hid (B.out.trans (hb.mono B.out.size)); clear hb))
  go_ret
  exact ⟨rfl, B.out⟩

set_option maxHeartbeats 4000000 in
theorem one_walk (l : List Nat) (A : Option Addr) (n c : Nat) (w : World) (hL0 : l.length = n) (hc0 : n ≤ c) (hB0 : By l) (hR0 : Rd w w.heap.size A l) (h0 : n ≤ 1000) :
    Calls Try.prog 6 #[.slice A n c] w fun e w' => e = .returned (.bool true) ∧ Below w.heap.size w w' := by
  have HL0 := Lib.hid hL0
  have HB0 := Lib.hid hB0
  have HR0 := Lib.hid hR0
  clear hL0 hB0 hR0
  have B := Lib.hid (Below.refl w.heap.size w)
  have j0 : ¬ (1000 : Int) < (n : Int) := by omega
  obtain ⟨x, y, d, q, hg⟩ : ∃ x y d q, Hid (getB l = (x, y, d, q)) := ⟨_, _, _, _, Lib.hid rfl⟩
  obtain ⟨k, hk⟩ : ∃ k, Hid (d.length = k) := ⟨_, Lib.hid rfl⟩
  obtain ⟨p, hp⟩ : ∃ p, Hid (padB l = p) := ⟨_, Lib.hid rfl⟩
  by_cases hq : q = 0
  · subst hq
    obtain ⟨x1, y1, d1, p1, e1⟩ := put_get HB0.out hg.out
    rw [HL0.out, hp.out] at e1
    rw [HL0.out, hp.out] at p1
    have EP := Lib.hid (errP_ok d1)
    have EA := Lib.hid ((putA_ok x y d1).trans e1)
    rw [hk.out] at d1
    obtain ⟨m, hm⟩ : ∃ m, n - p = m := ⟨_, rfl⟩
    rw [hm] at EA
    have EL := Lib.hid (show (l.take m).length = m by rw [List.length_take, HL0.out]; omega)
    have i1 : (n : Int) - (p : Int) = (m : Int) := by omega
    have i2 : IntKind.i64.wrap (m : Int) = (m : Int) := IntWalk.i64_in _ (by omega)
    have i3 : (p : Int) ≤ (n : Int) := by omega
    have i4 : (m : Int) ≤ (c : Int) := by omega
    have HT := Lib.hid (show Rd w w.heap.size A (l.take m) from HR0.out.take m)
    clear e1
    go_enter Try.func6, Try.ntmps6
    go_wp2_with (first
      | (go_at_call 7; (with_reducible refine (speaks13 _).mono ?_); rintro e wn ⟨rfl, hb⟩; replace B := Lib.hid (B.out.trans (hb.mono B.out.size)); (try replace X := Lib.hid (X.out.on hb)); (try replace Y := Lib.hid (Y.out.on hb)); clear hb)
      | (go_at_call 10; (with_reducible refine (cget_v l _ _ _ _ hg.out _ hk.out n c A _ (HR0.out.on B.out) HB0.out HL0.out (by omega) hc0).mono ?_); rintro e wn ⟨A3, c3, rfl, hc3, h3, hb⟩; replace B := Lib.hid (B.out.trans (hb.mono B.out.size)); (try replace X := Lib.hid (X.out.on hb)); (try replace Y := Lib.hid (Y.out.on hb)); have X := Lib.hid h3; clear h3; clear hb)
      | (go_at_call 8; (with_reducible refine (cput_v x y d _ EP.out _ EA.out _ EL.out k _ _ _ X.out hk.out).mono ?_); rintro e wn ⟨A4, c4, rfl, h4, hc4, hb⟩; replace B := Lib.hid (B.out.trans (hb.mono B.out.size)); (try replace X := Lib.hid (X.out.on hb)); (try replace Y := Lib.hid (Y.out.on hb)); have Y := Lib.hid h4; clear h4; clear hb)
      | (go_at_call 13; (with_reducible refine (pad_any l n c A _ (HR0.out.on B.out) HB0.out HL0.out (by omega) _ hp.out).mono ?_); rintro e wn ⟨rfl, hb⟩; replace B := Lib.hid (B.out.trans (hb.mono B.out.size)); (try replace X := Lib.hid (X.out.on hb)); (try replace Y := Lib.hid (Y.out.on hb)); clear hb)
      | (go_at_call 12; (with_reducible refine (equal_yes (l.take m) (l.take m) m m _ _ _ _ _ Y.out (HT.out.on B.out) EL.out EL.out (by omega) rfl).mono ?_); rintro e wn ⟨rfl, hb⟩; replace B := Lib.hid (B.out.trans (hb.mono B.out.size)); (try replace X := Lib.hid (X.out.on hb)); (try replace Y := Lib.hid (Y.out.on hb)); clear hb))
    go_ret
    exact ⟨rfl, B.out⟩
  · obtain ⟨rfl, rfl, rfl, p0⟩ := get_no hg.out hq
    obtain rfl : 0 = k := hk.out
    obtain rfl : 0 = p := p0.symm.trans hp.out
    have i1 : ((q : Int) != 0) = true := by rw [bne_iff_ne]; omega
    clear hq p0
    go_enter Try.func6, Try.ntmps6
    go_wp2_with (first
      | (go_at_call 7; (with_reducible refine (speaks13 _).mono ?_); rintro e wn ⟨rfl, hb⟩; replace B := Lib.hid (B.out.trans (hb.mono B.out.size)); (try replace X := Lib.hid (X.out.on hb)); (try replace Y := Lib.hid (Y.out.on hb)); clear hb)
      | (go_at_call 10; (with_reducible refine (cget_v l _ _ _ _ hg.out _ hk.out n c A _ (HR0.out.on B.out) HB0.out HL0.out (by omega) hc0).mono ?_); rintro e wn ⟨A3, c3, rfl, hc3, h3, hb⟩; replace B := Lib.hid (B.out.trans (hb.mono B.out.size)); (try replace X := Lib.hid (X.out.on hb)); (try replace Y := Lib.hid (Y.out.on hb)); have X := Lib.hid h3; clear h3; clear hb)
      | (go_at_call 13; (with_reducible refine (pad_any l n c A _ (HR0.out.on B.out) HB0.out HL0.out (by omega) _ hp.out).mono ?_); rintro e wn ⟨rfl, hb⟩; replace B := Lib.hid (B.out.trans (hb.mono B.out.size)); (try replace X := Lib.hid (X.out.on hb)); (try replace Y := Lib.hid (Y.out.on hb)); clear hb))
    go_ret
    exact ⟨rfl, B.out⟩
end Go.Proofs.Ytjkgnpgmbdkgbaa
