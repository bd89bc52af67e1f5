
/-
  CtlBack's walk. No condition.
-/
import Derived.Test.YtjkgnpgmbdkgbaaCtlV
namespace Go.Proofs.Ytjkgnpgmbdkgbaa
open Go.RowKit

set_option maxHeartbeats 2000000 in
theorem back_early (x y : Nat) (A0 : Option Addr) (n0 c0 : Nat) (A1 : Option Addr) (n1 c1 z : Nat) (w : World) (h : ¬ (n0 ≤ 1000 ∧ n1 ≤ 1000)) :
    Calls Try.prog 4 #[.int .u8 (x : Int), .int .u8 (y : Int), .slice A0 n0 c0, .slice A1 n1 c1, .int .u16 (z : Int)] w fun e w' => e = .returned (.bool true) ∧ Below w.heap.size w w' := by
  have B := Lib.hid (Below.refl w.heap.size w)
  by_cases g0 : n0 ≤ 1000
  · have j0 : ¬ (1000 : Int) < (n0 : Int) := by omega
    have j1 : (1000 : Int) < (n1 : Int) := by omega
    go_enter Try.func4, Try.ntmps4
    go_wp2_with (first
      | (go_at_call 7; (with_reducible refine (speaks13 _).mono ?_); rintro e wn ⟨rfl, hb⟩; replace B := Lib.hid (B.out.trans (hb.mono B.out.size)); clear hb))
    go_ret
    exact ⟨rfl, B.out⟩
  · have j0 : (1000 : Int) < (n0 : Int) := by omega
    go_enter Try.func4, Try.ntmps4
    go_wp2_with (first
      | (go_at_call 7; (with_reducible refine (speaks13 _).mono ?_); rintro e wn ⟨rfl, hb⟩; replace B := Lib.hid (B.out.trans (hb.mono B.out.size)); clear hb))
    go_ret
    exact ⟨rfl, B.out⟩

set_option maxHeartbeats 8000000 in
theorem back_walk (x y : Nat) (hx : x < 256) (hy : y < 256) (a : List Nat) (A0 : Option Addr) (n0 c0 : Nat) (b : List Nat) (A1 : Option Addr) (n1 c1 : Nat) (z : Nat) (hz : z < 65536) (w : World) (hL0 : a.length = n0) (hB0 : By a) (hR0 : Rd w w.heap.size A0 a) (hL1 : b.length = n1) (hB1 : By b) (hR1 : Rd w w.heap.size A1 b) (h0 : n0 ≤ 1000) (h1 : n1 ≤ 1000) :
    Calls Try.prog 4 #[.int .u8 (x : Int), .int .u8 (y : Int), .slice A0 n0 c0, .slice A1 n1 c1, .int .u16 (z : Int)] w fun e w' => e = .returned (.bool true) ∧ Below w.heap.size w w' := by
  have HL0 := Lib.hid hL0
  have HB0 := Lib.hid hB0
  have HR0 := Lib.hid hR0
  have HL1 := Lib.hid hL1
  have HB1 := Lib.hid hB1
  have HR1 := Lib.hid hR1
  clear hL0 hB0 hR0 hL1 hB1 hR1
  obtain ⟨i0, hi, hz0, hz1, hz2⟩ := info_parts byte_info
  have B := Lib.hid (Below.refl w.heap.size w)
  have j0 : ¬ (1000 : Int) < (n0 : Int) := by omega
  have j1 : ¬ (1000 : Int) < (n1 : Int) := by omega
  have EP := Lib.hid (errP_ok (l := a) (by rw [HL0.out]; omega))
  have EA := Lib.hid (putA_ok x y (l := a) (by rw [HL0.out]; omega))
  obtain ⟨m, hm⟩ : ∃ m, n0 + 4 = m := ⟨_, rfl⟩
  have EL := Lib.hid (show (putB x y a).length = m by rw [put_len, HL0.out, hm])
  have EB := Lib.hid (put_by hx hy HB0.out (by rw [HL0.out]; omega))
  have EG := Lib.hid (get_put x y a b)
  have ED := Lib.hid ((pad_put x y a b).trans HL1.out)
  have HBab := Lib.hid (EB.out.app HB1.out)
  have i1 : (n0 : Int) + 4 = (m : Int) := by omega
  have i2 : IntKind.i64.wrap (m : Int) = (m : Int) := IntWalk.i64_in _ (by omega)
  obtain ⟨r, hr⟩ : ∃ r, z % m = r := ⟨_, rfl⟩
  have r1 : r < m := by rw [← hr]; exact Nat.mod_lt _ (by omega)
  have i3 : (z : Int) % (m : Int) = (r : Int) := by rw [← hr]; simp
  have i4 : ¬ (m : Int) = 0 := by omega
  have i5 : ((m : Int) == 0) = false := by simp; omega
  have CG := Lib.hid (get_cut x y a r (by rw [HL0.out]; omega))
  have CP := Lib.hid (pad_cut x y a r (by rw [HL0.out]; omega))
  have CB := Lib.hid (EB.out.take r)
  have CL := Lib.hid (show ((putB x y a).take r).length = r by rw [List.length_take, EL.out]; omega)
  obtain ⟨s, hs⟩ : ∃ s, m + n1 = s := ⟨_, rfl⟩
  have SL := Lib.hid (show (putB x y a ++ b).length = s by rw [List.length_append, EL.out, HL1.out, hs])
  clear hr
  go_enter Try.func4, Try.ntmps4
  go_wp2_with (first
    | (go_at_call 7; (with_reducible refine (speaks13 _).mono ?_); rintro e wn ⟨rfl, hb⟩; replace B := Lib.hid (B.out.trans (hb.mono B.out.size)); (try replace X := Lib.hid (X.out.on hb)); (try replace Y := Lib.hid (Y.out.on hb)); (try replace Z := Lib.hid (Z.out.on hb)); clear hb)
    | (go_at_call 8; (with_reducible refine (cput_v x y a _ EP.out _ EA.out _ EL.out n0 c0 _ _ (HR0.out.on B.out) HL0.out).mono ?_); rintro e wn ⟨A4, c4, rfl, h4, hc4, hb⟩; replace B := Lib.hid (B.out.trans (hb.mono B.out.size)); (try replace X := Lib.hid (X.out.on hb)); (try replace Y := Lib.hid (Y.out.on hb)); (try replace Z := Lib.hid (Z.out.on hb)); have X := Lib.hid h4; have HO := Lib.hid (show (wn.alloc (.cells #[] 5)).ownsRow wn.heap.size 5 1 (.slice (some ⟨wn.heap.size, 0, none⟩) 0 0) 0 (bvs []) from World.ownsRow_lit wn #[] 0 (Nat.le_refl _) (by unfold maxLen; omega) rfl); have HX := Lib.hid ((Below.refl wn.heap.size wn).alloc (Nat.le_refl _) (.cells #[] 5)); have r2 : (r : Int) ≤ (c4 : Int) := (by omega); clear h4; clear hb)
    | (at_builtin; refine list_app rfl _ _ _ rfl _ i0 Try.underlying22 hi hz0 hz1 hz2 _ _ 0 [] rfl HO.out _ _ m _ (putB x y a) rfl (X.out.below HX.out) EL.out (by omega) HX.out.size ?_; intro A6 c6 w6 ho6 hg6; rw [Nat.zero_add] at ho6; have HO6 := Lib.hid ho6; replace HX := Lib.hid (HX.out.grown hg6 HX.out.size (fun g hk => (HO.out.lt g hk).1)); clear ho6 hg6 HO)
    | (at_builtin; refine list_app rfl _ _ _ rfl _ i0 Try.underlying22 hi hz0 hz1 hz2 _ _ m _ rfl HO6.out _ _ n1 _ b rfl ((HR1.out.on B.out).below HX.out) HL1.out (by omega) HX.out.size ?_; intro A7 c7 wn ho7 hg7; have hb := HX.out.grown hg7 HX.out.size (fun g hk => (HO6.out.lt g hk).1); replace B := Lib.hid (B.out.trans (hb.mono B.out.size)); (try replace X := Lib.hid (X.out.on hb)); (try replace Y := Lib.hid (Y.out.on hb)); (try replace Z := Lib.hid (Z.out.on hb)); have Y := Lib.hid (show Rd wn wn.heap.size A7 (putB x y a ++ b) from Rd.own ho7); have hc7 := own_cap ho7; rw [hs] at hc7 ⊢; clear ho7 hg7 HX HO6 hb)
    | (go_at_call 10; (with_reducible refine (cget_v (putB x y a ++ b) _ _ _ _ EG.out _ HL0.out s c7 A7 _ Y.out HBab.out SL.out (by omega) hc7).mono ?_); rintro e wn ⟨A8, c8, rfl, hc8, h8, hb⟩; replace B := Lib.hid (B.out.trans (hb.mono B.out.size)); (try replace X := Lib.hid (X.out.on hb)); (try replace Y := Lib.hid (Y.out.on hb)); (try replace Z := Lib.hid (Z.out.on hb)); have Z := Lib.hid h8; clear h8; clear hb)
    | (go_at_call 12; (with_reducible refine (equal_yes a a n0 n0 _ _ _ _ _ Z.out (HR0.out.on B.out) HL0.out HL0.out (by omega) rfl).mono ?_); rintro e wn ⟨rfl, hb⟩; replace B := Lib.hid (B.out.trans (hb.mono B.out.size)); (try replace X := Lib.hid (X.out.on hb)); (try replace Y := Lib.hid (Y.out.on hb)); (try replace Z := Lib.hid (Z.out.on hb)); clear hb)
    | (go_at_call 13; (with_reducible refine (pad_any (putB x y a ++ b) s c7 A7 _ Y.out HBab.out SL.out (by omega) _ ED.out).mono ?_); rintro e wn ⟨rfl, hb⟩; replace B := Lib.hid (B.out.trans (hb.mono B.out.size)); (try replace X := Lib.hid (X.out.on hb)); (try replace Y := Lib.hid (Y.out.on hb)); (try replace Z := Lib.hid (Z.out.on hb)); clear hb)
    | (go_at_call 10; (with_reducible refine (cget_v ((putB x y a).take r) _ _ _ _ CG.out 0 rfl r c4 A4 _ (X.out.take r) CB.out CL.out (by omega) (by omega)).mono ?_); rintro e wn ⟨A9, c9, rfl, hc9, h9, hb⟩; replace B := Lib.hid (B.out.trans (hb.mono B.out.size)); (try replace X := Lib.hid (X.out.on hb)); (try replace Y := Lib.hid (Y.out.on hb)); (try replace Z := Lib.hid (Z.out.on hb)); clear h9; rw [show ((2 : Nat) : Int) = 2 from rfl]; clear hb)
    | (go_at_call 13; (with_reducible refine (pad_any ((putB x y a).take r) r c4 A4 _ (X.out.take r) CB.out CL.out (by omega) _ CP.out).mono ?_); rintro e wn ⟨rfl, hb⟩; replace B := Lib.hid (B.out.trans (hb.mono B.out.size)); (try replace X := Lib.hid (X.out.on hb)); (try replace Y := Lib.hid (Y.out.on hb)); (try replace Z := Lib.hid (Z.out.on hb)); clear hb))
  go_ret
  exact ⟨rfl, B.out⟩
end Go.Proofs.Ytjkgnpgmbdkgbaa
