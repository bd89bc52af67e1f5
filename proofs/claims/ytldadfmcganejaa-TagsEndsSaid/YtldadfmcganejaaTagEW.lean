
/-
  TagsEnds' walk. No condition.
-/
import Derived.Test.YtldadfmcganejaaTagV
import Derived.Deep.RegionHeld3
namespace Go.Proofs.Ytldadfmcganejaa
set_option maxRecDepth 4000
open Go.RowKit

set_option maxHeartbeats 4000000 in
theorem tge_early (a : List (Nat × List Nat)) (A0 : Option Addr) (n0 c0 : Nat) (A1 : Option Addr) (n1 c1 t : Nat) (w : World) (hL0 : a.length = n0) (hn0 : n0 ≤ 140737488351232) (hO0 : ByG a) (hD0 : ∀ x ∈ a, x.2.length ≤ 140737488351232) (hR0 : Rws shG (fun _ => True) w A0 a) (h : ¬ (tgfew a = true ∧ n1 ≤ 1000)) :
    Calls Try.prog 5 #[.slice A0 n0 c0, .slice A1 n1 c1, .int .u16 (t : Int)] w fun e w' => e = .returned (.bool true) ∧ Below w.heap.size w w' := by
  have HR0 := Lib.hid hR0
  have HL0 := Lib.hid hL0
  have HD0 := Lib.hid hD0
  have HO0 := Lib.hid hO0
  clear hR0 hL0 hD0 hO0
  have B := Lib.hid (Below.refl w.heap.size w)
  by_cases hf : tgfew a = true
  · have HF := Lib.hid hf
    have j1 : (1000 : Int) < (n1 : Int) := by
      have : ¬ n1 ≤ 1000 := fun h3 => h ⟨hf, h3⟩
      omega
    clear hf h
    go_enter Try.func5, Try.ntmps5
    go_wp2_with (first
      | (go_at_call 7; (with_reducible refine (speaks21 _).mono ?_); rintro e wn ⟨rfl, hb⟩; replace B := Lib.hid (B.out.trans (hb.mono B.out.size)); (try replace L := Lib.hid (L.out.below hb)); (try replace X := Lib.hid (X.out.on hb)); (try replace X2 := Lib.hid (X2.out.on hb)); (try replace Y := Lib.hid (Y.out.below hb)); (try replace Y2 := Lib.hid (Y2.out.below hb)); (try replace TT := Lib.hid (TT.out.below hb)); (try replace T2 := Lib.hid (T2.out.below hb)); (try replace Z := Lib.hid (Z.out.below hb)); clear hb)
      | (go_at_call 8; (with_reducible refine (tgfew_v a _ HF.out n0 c0 A0 _ _ (HR0.out.below B.out) HL0.out (by omega) HD0.out).mono ?_); rintro e wn ⟨rfl, hb⟩; replace B := Lib.hid (B.out.trans (hb.mono B.out.size)); (try replace L := Lib.hid (L.out.below hb)); (try replace X := Lib.hid (X.out.on hb)); (try replace X2 := Lib.hid (X2.out.on hb)); (try replace Y := Lib.hid (Y.out.below hb)); (try replace Y2 := Lib.hid (Y2.out.below hb)); (try replace TT := Lib.hid (TT.out.below hb)); (try replace T2 := Lib.hid (T2.out.below hb)); (try replace Z := Lib.hid (Z.out.below hb)); clear hb))
    go_ret
    exact ⟨rfl, B.out⟩
  · have HF := Lib.hid (Bool.eq_false_iff.2 hf)
    clear hf h
    go_enter Try.func5, Try.ntmps5
    go_wp2_with (first
      | (go_at_call 7; (with_reducible refine (speaks21 _).mono ?_); rintro e wn ⟨rfl, hb⟩; replace B := Lib.hid (B.out.trans (hb.mono B.out.size)); (try replace L := Lib.hid (L.out.below hb)); (try replace X := Lib.hid (X.out.on hb)); (try replace X2 := Lib.hid (X2.out.on hb)); (try replace Y := Lib.hid (Y.out.below hb)); (try replace Y2 := Lib.hid (Y2.out.below hb)); (try replace TT := Lib.hid (TT.out.below hb)); (try replace T2 := Lib.hid (T2.out.below hb)); (try replace Z := Lib.hid (Z.out.below hb)); clear hb)
      | (go_at_call 8; (with_reducible refine (tgfew_v a _ HF.out n0 c0 A0 _ _ (HR0.out.below B.out) HL0.out (by omega) HD0.out).mono ?_); rintro e wn ⟨rfl, hb⟩; replace B := Lib.hid (B.out.trans (hb.mono B.out.size)); (try replace L := Lib.hid (L.out.below hb)); (try replace X := Lib.hid (X.out.on hb)); (try replace X2 := Lib.hid (X2.out.on hb)); (try replace Y := Lib.hid (Y.out.below hb)); (try replace Y2 := Lib.hid (Y2.out.below hb)); (try replace TT := Lib.hid (TT.out.below hb)); (try replace T2 := Lib.hid (T2.out.below hb)); (try replace Z := Lib.hid (Z.out.below hb)); clear hb))
    go_ret
    exact ⟨rfl, B.out⟩

set_option linter.unusedVariables false in
set_option maxHeartbeats 20000000 in
theorem tge_bad (a : List (Nat × List Nat)) (A0 : Option Addr) (n0 c0 : Nat) (b : List Nat) (A1 : Option Addr) (n1 c1 t : Nat) (w : World) (hL0 : a.length = n0) (hn0 : n0 ≤ 140737488351232) (hO0 : ByG a) (hD0 : ∀ x ∈ a, x.2.length ≤ 140737488351232) (hR0 : Rws shG (fun _ => True) w A0 a) (hL1 : b.length = n1) (hc1 : n1 ≤ c1) (hB1 : By b) (hR1 : Rd w w.heap.size A1 b) (ht : t < 65536) (hf : tgfew a = true) (h1 : n1 ≤ 1000) (hP : ¬ tgerr a = 0) :
    Calls Try.prog 5 #[.slice A0 n0 c0, .slice A1 n1 c1, .int .u16 (t : Int)] w fun e w' => e = .returned (.bool true) ∧ Below w.heap.size w w' := by
  have HR0 := Lib.hid hR0
  have HL0 := Lib.hid hL0
  have HD0 := Lib.hid hD0
  have HO0 := Lib.hid hO0
  clear hR0 hL0 hD0 hO0
  have B := Lib.hid (Below.refl w.heap.size w)
  obtain ⟨q1, q2⟩ := tgfew_of hf
  rw [HL0.out] at q1
  have HF := Lib.hid hf
  have Q2 := Lib.hid q2
  clear hf q2
  have HR1 := Lib.hid hR1
  have HL1 := Lib.hid hL1
  have HB1 := Lib.hid hB1
  clear hR1 hL1 hB1
  have j1 : ¬ (1000 : Int) < (n1 : Int) := by omega
  obtain ⟨e0, he0⟩ : ∃ e, Hid (tgerr a = e) := ⟨_, Lib.hid rfl⟩
  have e1 : e0 ≠ 0 := fun h => hP (he0.out.trans h)
  have EA := Lib.hid (tgputA_bad he0.out e1)
  have j2 : ((e0 : Int) != 0) = true := by rw [bne_iff_ne]; omega
  clear hP e1
  go_enter Try.func5, Try.ntmps5
  go_wp2_with (first
    | (go_at_call 7; (with_reducible refine (speaks21 _).mono ?_); rintro e wn ⟨rfl, hb⟩; replace B := Lib.hid (B.out.trans (hb.mono B.out.size)); (try replace L := Lib.hid (L.out.below hb)); (try replace X := Lib.hid (X.out.on hb)); (try replace X2 := Lib.hid (X2.out.on hb)); (try replace Y := Lib.hid (Y.out.below hb)); (try replace Y2 := Lib.hid (Y2.out.below hb)); (try replace TT := Lib.hid (TT.out.below hb)); (try replace T2 := Lib.hid (T2.out.below hb)); (try replace Z := Lib.hid (Z.out.below hb)); clear hb)
    | (go_at_call 8; (with_reducible refine (tgfew_v a _ HF.out n0 c0 A0 _ _ (HR0.out.below B.out) HL0.out (by omega) HD0.out).mono ?_); rintro e wn ⟨rfl, hb⟩; replace B := Lib.hid (B.out.trans (hb.mono B.out.size)); (try replace L := Lib.hid (L.out.below hb)); (try replace X := Lib.hid (X.out.on hb)); (try replace X2 := Lib.hid (X2.out.on hb)); (try replace Y := Lib.hid (Y.out.below hb)); (try replace Y2 := Lib.hid (Y2.out.below hb)); (try replace TT := Lib.hid (TT.out.below hb)); (try replace T2 := Lib.hid (T2.out.below hb)); (try replace Z := Lib.hid (Z.out.below hb)); clear hb)
    | (go_at_call 10; (with_reducible refine (tgof_v a n0 c0 A0 _ (HR0.out.below B.out) HL0.out (by omega)).mono ?_); rintro e wn ⟨A3, c3, rfl, h3, hb⟩; replace B := Lib.hid (B.out.trans (hb.mono B.out.size)); (try replace L := Lib.hid (L.out.below hb)); (try replace X := Lib.hid (X.out.on hb)); (try replace X2 := Lib.hid (X2.out.on hb)); (try replace Y := Lib.hid (Y.out.below hb)); (try replace Y2 := Lib.hid (Y2.out.below hb)); (try replace TT := Lib.hid (TT.out.below hb)); (try replace T2 := Lib.hid (T2.out.below hb)); (try replace Z := Lib.hid (Z.out.below hb)); have L := Lib.hid h3; clear h3; clear hb)
    | (go_at_call 9; (with_reducible refine (tgput_v a _ he0.out _ EA.out _ (rfl : ([] : List Nat).length = 0) n0 _ _ _ _ L.out HL0.out (by omega) (Nat.le_trans Q2.out (by decide)) HO0.out).mono ?_); rintro e wn ⟨A4, c4, rfl, h4, h4c, hb⟩; replace B := Lib.hid (B.out.trans (hb.mono B.out.size)); (try replace L := Lib.hid (L.out.below hb)); (try replace X := Lib.hid (X.out.on hb)); (try replace X2 := Lib.hid (X2.out.on hb)); (try replace Y := Lib.hid (Y.out.below hb)); (try replace Y2 := Lib.hid (Y2.out.below hb)); (try replace TT := Lib.hid (TT.out.below hb)); (try replace T2 := Lib.hid (T2.out.below hb)); (try replace Z := Lib.hid (Z.out.below hb)); have X := Lib.hid h4; clear h4; clear hb))
  go_ret
  exact ⟨rfl, B.out⟩

set_option linter.unusedVariables false in
set_option maxHeartbeats 20000000 in
theorem tge_none (a : List (Nat × List Nat)) (A0 : Option Addr) (n0 c0 : Nat) (b : List Nat) (A1 : Option Addr) (n1 c1 t : Nat) (w : World) (hL0 : a.length = n0) (hn0 : n0 ≤ 140737488351232) (hO0 : ByG a) (hD0 : ∀ x ∈ a, x.2.length ≤ 140737488351232) (hR0 : Rws shG (fun _ => True) w A0 a) (hL1 : b.length = n1) (hc1 : n1 ≤ c1) (hB1 : By b) (hR1 : Rd w w.heap.size A1 b) (ht : t < 65536) (hf : tgfew a = true) (h1 : n1 ≤ 1000) (hP : tgerr a = 0) (hN : (tgput a).length = 0) :
    Calls Try.prog 5 #[.slice A0 n0 c0, .slice A1 n1 c1, .int .u16 (t : Int)] w fun e w' => e = .returned (.bool true) ∧ Below w.heap.size w w' := by
  have HR0 := Lib.hid hR0
  have HL0 := Lib.hid hL0
  have HD0 := Lib.hid hD0
  have HO0 := Lib.hid hO0
  clear hR0 hL0 hD0 hO0
  have B := Lib.hid (Below.refl w.heap.size w)
  obtain ⟨q1, q2⟩ := tgfew_of hf
  rw [HL0.out] at q1
  have HF := Lib.hid hf
  have Q2 := Lib.hid q2
  clear hf q2
  have HR1 := Lib.hid hR1
  have HL1 := Lib.hid hL1
  have HB1 := Lib.hid hB1
  clear hR1 hL1 hB1
  have j1 : ¬ (1000 : Int) < (n1 : Int) := by omega
  obtain ⟨i0, hi, hz0, hz1, hz2⟩ := info_parts byte_info
  have EP := Lib.hid hP
  have EA := Lib.hid (tgputA_ok hP)
  have HBX := Lib.hid (tgput_by HO0.out hP)
  obtain ⟨k0, hk0⟩ : ∃ k, Hid ((tgput a).length = k) := ⟨_, Lib.hid rfl⟩
  have hk2 : k0 ≤ 1240 := by have := hk0.out; rw [tgput_len, HL0.out] at this; have := Q2.out; omega
  obtain ⟨k4, hk4⟩ : ∃ k4, k0 + 4 = k4 := ⟨_, rfl⟩
  obtain ⟨k6, hk6⟩ : ∃ k6, k4 + n1 = k6 := ⟨_, rfl⟩
  have GE := Lib.hid (show tgget (tgput a ++ [0, 0, 0, 0] ++ b) = (a, k4, 0) by
    have := tgget_ends a b hP
    rw [hk0.out, hk4] at this
    rw [List.append_assoc]
    exact this)
  have HBG := Lib.hid (show By (tgput a ++ [0, 0, 0, 0] ++ b) from By.app (By.app HBX.out (fun x hx => by simp at hx; omega)) HB1.out)
  have HLG := Lib.hid (show (tgput a ++ [0, 0, 0, 0] ++ b).length = k6 by rw [List.length_append, List.length_append, hk0.out, HL1.out, ← hk6, ← hk4]; rfl)
  have HLT := Lib.hid (show ∀ W : World, Rd (W.alloc (.cells #[.int .u8 0, .int .u8 0, .int .u8 0, .int .u8 0] 5)) (W.alloc (.cells #[.int .u8 0, .int .u8 0, .int .u8 0, .int .u8 0] 5)).heap.size (some ⟨W.heap.size, 0, none⟩) [0, 0, 0, 0] from fun W => Rd.lit_ W [0, 0, 0, 0])
  have m1 : (k0 : Int) + 4 = (k4 : Int) := by omega
  have m2 : IntKind.i64.wrap (k4 : Int) = (k4 : Int) := IntWalk.i64_in _ (by omega)
  have t1 : IntKind.i64.wrap (t : Int) = (t : Int) := IntWalk.i64_in _ (by omega)
  have t2 : wrap64 (t : Int) = (t : Int) := IntWalk.wrap64_in _ (by omega)
  have hk00 : k0 = 0 := by rw [← hk0.out]; exact hN
  have m3 : ((k0 : Int) == 0) = true := by rw [hk00]; rfl
  clear hP hN hk00
  go_enter Try.func5, Try.ntmps5
  go_wp2_with (first
    | (go_at_call 7; (with_reducible refine (speaks21 _).mono ?_); rintro e wn ⟨rfl, hb⟩; replace B := Lib.hid (B.out.trans (hb.mono B.out.size)); (try replace L := Lib.hid (L.out.below hb)); (try replace X := Lib.hid (X.out.on hb)); (try replace X2 := Lib.hid (X2.out.on hb)); (try replace Y := Lib.hid (Y.out.below hb)); (try replace Y2 := Lib.hid (Y2.out.below hb)); (try replace TT := Lib.hid (TT.out.below hb)); (try replace T2 := Lib.hid (T2.out.below hb)); (try replace Z := Lib.hid (Z.out.below hb)); clear hb)
    | (go_at_call 8; (with_reducible refine (tgfew_v a _ HF.out n0 c0 A0 _ _ (HR0.out.below B.out) HL0.out (by omega) HD0.out).mono ?_); rintro e wn ⟨rfl, hb⟩; replace B := Lib.hid (B.out.trans (hb.mono B.out.size)); (try replace L := Lib.hid (L.out.below hb)); (try replace X := Lib.hid (X.out.on hb)); (try replace X2 := Lib.hid (X2.out.on hb)); (try replace Y := Lib.hid (Y.out.below hb)); (try replace Y2 := Lib.hid (Y2.out.below hb)); (try replace TT := Lib.hid (TT.out.below hb)); (try replace T2 := Lib.hid (T2.out.below hb)); (try replace Z := Lib.hid (Z.out.below hb)); clear hb)
    | (go_at_call 10; (with_reducible refine (tgof_v a n0 c0 A0 _ (HR0.out.below B.out) HL0.out (by omega)).mono ?_); rintro e wn ⟨A3, c3, rfl, h3, hb⟩; replace B := Lib.hid (B.out.trans (hb.mono B.out.size)); (try replace L := Lib.hid (L.out.below hb)); (try replace X := Lib.hid (X.out.on hb)); (try replace X2 := Lib.hid (X2.out.on hb)); (try replace Y := Lib.hid (Y.out.below hb)); (try replace Y2 := Lib.hid (Y2.out.below hb)); (try replace TT := Lib.hid (TT.out.below hb)); (try replace T2 := Lib.hid (T2.out.below hb)); (try replace Z := Lib.hid (Z.out.below hb)); have L := Lib.hid h3; clear h3; clear hb)
    | (go_at_call 9; (with_reducible refine (tgput_v a _ EP.out _ EA.out _ hk0.out n0 _ _ _ _ L.out HL0.out (by omega) (Nat.le_trans Q2.out (by decide)) HO0.out).mono ?_); rintro e wn ⟨A4, c4, rfl, h4, h4c, hb⟩; replace B := Lib.hid (B.out.trans (hb.mono B.out.size)); (try replace L := Lib.hid (L.out.below hb)); (try replace X := Lib.hid (X.out.on hb)); (try replace X2 := Lib.hid (X2.out.on hb)); (try replace Y := Lib.hid (Y.out.below hb)); (try replace Y2 := Lib.hid (Y2.out.below hb)); (try replace TT := Lib.hid (TT.out.below hb)); (try replace T2 := Lib.hid (T2.out.below hb)); (try replace Z := Lib.hid (Z.out.below hb)); have X := Lib.hid h4; clear h4; have OX := Lib.hid (show (wn.alloc (.cells #[] 5)).ownsRow wn.heap.size 5 1 (.slice (some ⟨wn.heap.size, 0, none⟩) 0 0) 0 (bvs []) from World.ownsRow_lit wn #[] 0 (Nat.le_refl _) (by unfold maxLen; omega) rfl); have D := Lib.hid ((Below.refl wn.heap.size wn).alloc (Nat.le_refl _) (.cells #[] 5)); have P1 := Lib.hid trivial; clear hb)
    | (at_builtin; have _g := P1; clear _g; refine list_app rfl _ _ _ rfl _ i0 Try.underlying23 hi hz0 hz1 hz2 _ _ _ [] rfl OX.out _ _ k0 _ (tgput a) rfl (X.out.on D.out) hk0.out (by omega) D.out.size ?_; intro A10 c10 w10 h10 hg10; rw [List.nil_append, Nat.zero_add] at h10; rw [Nat.zero_add]; replace D := Lib.hid (D.out.grown hg10 D.out.size (fun g hg => (OX.out.lt g hg).1)); replace OX := Lib.hid h10; clear h10 hg10 P1; have P2 := Lib.hid trivial)
    | (at_builtin; have _g := P2; clear _g; refine list_app rfl _ _ _ rfl _ i0 Try.underlying23 hi hz0 hz1 hz2 _ _ k0 (tgput a) rfl (own_below OX.out ((Below.refl _ _).alloc (Nat.le_refl _) _)) _ _ 4 _ [0, 0, 0, 0] rfl (HLT.out _) rfl (by omega) (D.out.alloc D.out.size _).size ?_; intro A11 c11 w11 h11 hg11; rw [hk4] at h11 ⊢; replace D := Lib.hid ((D.out.alloc D.out.size _).grown hg11 (D.out.alloc D.out.size _).size (fun g hg => (OX.out.lt g hg).1)); replace OX := Lib.hid h11; clear h11 hg11 P2; have P3 := Lib.hid trivial)
    | (at_builtin; have _g := P3; clear _g; refine list_app rfl _ _ _ rfl _ i0 Try.underlying23 hi hz0 hz1 hz2 _ _ k4 (tgput a ++ [0, 0, 0, 0]) rfl OX.out _ _ n1 _ b rfl (HR1.out.on (B.out.trans (D.out.mono B.out.size))) HL1.out (by omega) D.out.size ?_; intro A12 c12 w12 h12 hg12; rw [hk6] at h12 ⊢; replace D := Lib.hid (D.out.grown hg12 D.out.size (fun g hg => (OX.out.lt g hg).1)); replace OX := Lib.hid h12; clear h12 hg12 P3; have P4 := Lib.hid trivial)
    | (go_at_call 12; have _g := P4; clear _g; (with_reducible refine (tgget_v _ a _ _ GE.out n0 HL0.out k6 _ _ _ (Rd.own OX.out) HBG.out HLG.out (by omega) (own_cap OX.out)).mono ?_); rintro e wn ⟨A7, c7, rfl, h7, hb⟩; replace B := Lib.hid ((B.out.trans (D.out.mono B.out.size)).trans (hb.mono (Nat.le_trans B.out.size D.out.size))); replace X := Lib.hid ((X.out.on D.out).on hb); have Y := Lib.hid h7; clear h7 OX D P4 hb; have P5 := Lib.hid trivial)
    | (go_at_call 16; have _g := P5; clear _g; (with_reducible refine (tgto_v a n0 _ _ _ Y.out HL0.out (by omega)).mono ?_); rintro e wn ⟨A6, c6, rfl, h6, hb⟩; replace B := Lib.hid (B.out.trans (hb.mono B.out.size)); (try replace L := Lib.hid (L.out.below hb)); (try replace X := Lib.hid (X.out.on hb)); (try replace X2 := Lib.hid (X2.out.on hb)); (try replace Y := Lib.hid (Y.out.below hb)); (try replace Y2 := Lib.hid (Y2.out.below hb)); (try replace TT := Lib.hid (TT.out.below hb)); (try replace T2 := Lib.hid (T2.out.below hb)); (try replace Z := Lib.hid (Z.out.below hb)); have TT := Lib.hid h6; clear h6 P5; clear hb)
    | (go_at_call 15; (with_reducible refine (tgsame_v a a _ (decide_eq_true rfl) n0 n0 _ _ _ _ _ _ _ TT.out (HR0.out.below B.out) HO0.out HO0.out HL0.out HL0.out (by omega)).mono ?_); rintro e wn ⟨rfl, hb⟩; replace B := Lib.hid (B.out.trans (hb.mono B.out.size)); (try replace L := Lib.hid (L.out.below hb)); (try replace X := Lib.hid (X.out.on hb)); (try replace X2 := Lib.hid (X2.out.on hb)); (try replace Y := Lib.hid (Y.out.below hb)); (try replace Y2 := Lib.hid (Y2.out.below hb)); (try replace TT := Lib.hid (TT.out.below hb)); (try replace T2 := Lib.hid (T2.out.below hb)); (try replace Z := Lib.hid (Z.out.below hb)); clear hb))
  go_ret
  exact ⟨rfl, B.out⟩

set_option linter.unusedVariables false in
set_option maxHeartbeats 20000000 in
theorem tge_short (a : List (Nat × List Nat)) (A0 : Option Addr) (n0 c0 : Nat) (b : List Nat) (A1 : Option Addr) (n1 c1 t : Nat) (w : World) (hL0 : a.length = n0) (hn0 : n0 ≤ 140737488351232) (hO0 : ByG a) (hD0 : ∀ x ∈ a, x.2.length ≤ 140737488351232) (hR0 : Rws shG (fun _ => True) w A0 a) (hL1 : b.length = n1) (hc1 : n1 ≤ c1) (hB1 : By b) (hR1 : Rd w w.heap.size A1 b) (ht : t < 65536) (hf : tgfew a = true) (h1 : n1 ≤ 1000) (hP : tgerr a = 0) (hN : (tgput a).length ≠ 0) (hC : tgget ((tgput a).take (t % (tgput a).length)) = ([], 0, 2)) :
    Calls Try.prog 5 #[.slice A0 n0 c0, .slice A1 n1 c1, .int .u16 (t : Int)] w fun e w' => e = .returned (.bool true) ∧ Below w.heap.size w w' := by
  have HR0 := Lib.hid hR0
  have HL0 := Lib.hid hL0
  have HD0 := Lib.hid hD0
  have HO0 := Lib.hid hO0
  clear hR0 hL0 hD0 hO0
  have B := Lib.hid (Below.refl w.heap.size w)
  obtain ⟨q1, q2⟩ := tgfew_of hf
  rw [HL0.out] at q1
  have HF := Lib.hid hf
  have Q2 := Lib.hid q2
  clear hf q2
  have HR1 := Lib.hid hR1
  have HL1 := Lib.hid hL1
  have HB1 := Lib.hid hB1
  clear hR1 hL1 hB1
  have j1 : ¬ (1000 : Int) < (n1 : Int) := by omega
  obtain ⟨i0, hi, hz0, hz1, hz2⟩ := info_parts byte_info
  have EP := Lib.hid hP
  have EA := Lib.hid (tgputA_ok hP)
  have HBX := Lib.hid (tgput_by HO0.out hP)
  obtain ⟨k0, hk0⟩ : ∃ k, Hid ((tgput a).length = k) := ⟨_, Lib.hid rfl⟩
  have hk2 : k0 ≤ 1240 := by have := hk0.out; rw [tgput_len, HL0.out] at this; have := Q2.out; omega
  obtain ⟨k4, hk4⟩ : ∃ k4, k0 + 4 = k4 := ⟨_, rfl⟩
  obtain ⟨k6, hk6⟩ : ∃ k6, k4 + n1 = k6 := ⟨_, rfl⟩
  have GE := Lib.hid (show tgget (tgput a ++ [0, 0, 0, 0] ++ b) = (a, k4, 0) by
    have := tgget_ends a b hP
    rw [hk0.out, hk4] at this
    rw [List.append_assoc]
    exact this)
  have HBG := Lib.hid (show By (tgput a ++ [0, 0, 0, 0] ++ b) from By.app (By.app HBX.out (fun x hx => by simp at hx; omega)) HB1.out)
  have HLG := Lib.hid (show (tgput a ++ [0, 0, 0, 0] ++ b).length = k6 by rw [List.length_append, List.length_append, hk0.out, HL1.out, ← hk6, ← hk4]; rfl)
  have HLT := Lib.hid (show ∀ W : World, Rd (W.alloc (.cells #[.int .u8 0, .int .u8 0, .int .u8 0, .int .u8 0] 5)) (W.alloc (.cells #[.int .u8 0, .int .u8 0, .int .u8 0, .int .u8 0] 5)).heap.size (some ⟨W.heap.size, 0, none⟩) [0, 0, 0, 0] from fun W => Rd.lit_ W [0, 0, 0, 0])
  have m1 : (k0 : Int) + 4 = (k4 : Int) := by omega
  have m2 : IntKind.i64.wrap (k4 : Int) = (k4 : Int) := IntWalk.i64_in _ (by omega)
  have t1 : IntKind.i64.wrap (t : Int) = (t : Int) := IntWalk.i64_in _ (by omega)
  have t2 : wrap64 (t : Int) = (t : Int) := IntWalk.wrap64_in _ (by omega)
  obtain ⟨kk, hkk⟩ : ∃ kk, t % k0 = kk := ⟨_, rfl⟩
  have hk01 : 0 < k0 := by have := hk0.out; omega
  have hkl : kk < k0 := by rw [← hkk]; exact Nat.mod_lt _ hk01
  have m3 : ((k0 : Int) == 0) = false := by rw [beq_eq_false_iff_ne]; omega
  have m4 : (t : Int).tmod (k0 : Int) = (kk : Int) := by rw [Int.tmod_eq_emod_of_nonneg (Int.natCast_nonneg t), ← hkk, Int.natCast_emod]
  have m5 : (0 : Int) ≤ (kk : Int) := by omega
  have HLK := Lib.hid (show ((tgput a).take kk).length = kk by rw [List.length_take, hk0.out]; omega)
  have m6 : ¬ (k0 : Int) = 0 := by omega
  have HBK := Lib.hid (HBX.out.take kk)
  have M7 := Lib.hid (fun c h => (by omega) : ∀ c : Nat, k0 ≤ c → (kk : Int) ≤ (c : Int))
  have GC := Lib.hid (show tgget ((tgput a).take kk) = ([], 0, 2) by rw [← hkk, ← hk0.out]; exact hC)
  clear hP hN hC hkk
  go_enter Try.func5, Try.ntmps5
  go_wp2_with (first
    | (go_at_call 7; (with_reducible refine (speaks21 _).mono ?_); rintro e wn ⟨rfl, hb⟩; replace B := Lib.hid (B.out.trans (hb.mono B.out.size)); (try replace L := Lib.hid (L.out.below hb)); (try replace X := Lib.hid (X.out.on hb)); (try replace X2 := Lib.hid (X2.out.on hb)); (try replace Y := Lib.hid (Y.out.below hb)); (try replace Y2 := Lib.hid (Y2.out.below hb)); (try replace TT := Lib.hid (TT.out.below hb)); (try replace T2 := Lib.hid (T2.out.below hb)); (try replace Z := Lib.hid (Z.out.below hb)); clear hb)
    | (go_at_call 8; (with_reducible refine (tgfew_v a _ HF.out n0 c0 A0 _ _ (HR0.out.below B.out) HL0.out (by omega) HD0.out).mono ?_); rintro e wn ⟨rfl, hb⟩; replace B := Lib.hid (B.out.trans (hb.mono B.out.size)); (try replace L := Lib.hid (L.out.below hb)); (try replace X := Lib.hid (X.out.on hb)); (try replace X2 := Lib.hid (X2.out.on hb)); (try replace Y := Lib.hid (Y.out.below hb)); (try replace Y2 := Lib.hid (Y2.out.below hb)); (try replace TT := Lib.hid (TT.out.below hb)); (try replace T2 := Lib.hid (T2.out.below hb)); (try replace Z := Lib.hid (Z.out.below hb)); clear hb)
    | (go_at_call 10; (with_reducible refine (tgof_v a n0 c0 A0 _ (HR0.out.below B.out) HL0.out (by omega)).mono ?_); rintro e wn ⟨A3, c3, rfl, h3, hb⟩; replace B := Lib.hid (B.out.trans (hb.mono B.out.size)); (try replace L := Lib.hid (L.out.below hb)); (try replace X := Lib.hid (X.out.on hb)); (try replace X2 := Lib.hid (X2.out.on hb)); (try replace Y := Lib.hid (Y.out.below hb)); (try replace Y2 := Lib.hid (Y2.out.below hb)); (try replace TT := Lib.hid (TT.out.below hb)); (try replace T2 := Lib.hid (T2.out.below hb)); (try replace Z := Lib.hid (Z.out.below hb)); have L := Lib.hid h3; clear h3; clear hb)
    | (go_at_call 9; (with_reducible refine (tgput_v a _ EP.out _ EA.out _ hk0.out n0 _ _ _ _ L.out HL0.out (by omega) (Nat.le_trans Q2.out (by decide)) HO0.out).mono ?_); rintro e wn ⟨A4, c4, rfl, h4, h4c, hb⟩; replace B := Lib.hid (B.out.trans (hb.mono B.out.size)); (try replace L := Lib.hid (L.out.below hb)); (try replace X := Lib.hid (X.out.on hb)); (try replace X2 := Lib.hid (X2.out.on hb)); (try replace Y := Lib.hid (Y.out.below hb)); (try replace Y2 := Lib.hid (Y2.out.below hb)); (try replace TT := Lib.hid (TT.out.below hb)); (try replace T2 := Lib.hid (T2.out.below hb)); (try replace Z := Lib.hid (Z.out.below hb)); have X := Lib.hid h4; clear h4; have m8 := M7.out _ h4c; have OX := Lib.hid (show (wn.alloc (.cells #[] 5)).ownsRow wn.heap.size 5 1 (.slice (some ⟨wn.heap.size, 0, none⟩) 0 0) 0 (bvs []) from World.ownsRow_lit wn #[] 0 (Nat.le_refl _) (by unfold maxLen; omega) rfl); have D := Lib.hid ((Below.refl wn.heap.size wn).alloc (Nat.le_refl _) (.cells #[] 5)); have P1 := Lib.hid trivial; clear hb)
    | (at_builtin; have _g := P1; clear _g; refine list_app rfl _ _ _ rfl _ i0 Try.underlying23 hi hz0 hz1 hz2 _ _ _ [] rfl OX.out _ _ k0 _ (tgput a) rfl (X.out.on D.out) hk0.out (by omega) D.out.size ?_; intro A10 c10 w10 h10 hg10; rw [List.nil_append, Nat.zero_add] at h10; rw [Nat.zero_add]; replace D := Lib.hid (D.out.grown hg10 D.out.size (fun g hg => (OX.out.lt g hg).1)); replace OX := Lib.hid h10; clear h10 hg10 P1; have P2 := Lib.hid trivial)
    | (at_builtin; have _g := P2; clear _g; refine list_app rfl _ _ _ rfl _ i0 Try.underlying23 hi hz0 hz1 hz2 _ _ k0 (tgput a) rfl (own_below OX.out ((Below.refl _ _).alloc (Nat.le_refl _) _)) _ _ 4 _ [0, 0, 0, 0] rfl (HLT.out _) rfl (by omega) (D.out.alloc D.out.size _).size ?_; intro A11 c11 w11 h11 hg11; rw [hk4] at h11 ⊢; replace D := Lib.hid ((D.out.alloc D.out.size _).grown hg11 (D.out.alloc D.out.size _).size (fun g hg => (OX.out.lt g hg).1)); replace OX := Lib.hid h11; clear h11 hg11 P2; have P3 := Lib.hid trivial)
    | (at_builtin; have _g := P3; clear _g; refine list_app rfl _ _ _ rfl _ i0 Try.underlying23 hi hz0 hz1 hz2 _ _ k4 (tgput a ++ [0, 0, 0, 0]) rfl OX.out _ _ n1 _ b rfl (HR1.out.on (B.out.trans (D.out.mono B.out.size))) HL1.out (by omega) D.out.size ?_; intro A12 c12 w12 h12 hg12; rw [hk6] at h12 ⊢; replace D := Lib.hid (D.out.grown hg12 D.out.size (fun g hg => (OX.out.lt g hg).1)); replace OX := Lib.hid h12; clear h12 hg12 P3; have P4 := Lib.hid trivial)
    | (go_at_call 12; have _g := P4; clear _g; (with_reducible refine (tgget_v _ a _ _ GE.out n0 HL0.out k6 _ _ _ (Rd.own OX.out) HBG.out HLG.out (by omega) (own_cap OX.out)).mono ?_); rintro e wn ⟨A7, c7, rfl, h7, hb⟩; replace B := Lib.hid ((B.out.trans (D.out.mono B.out.size)).trans (hb.mono (Nat.le_trans B.out.size D.out.size))); replace X := Lib.hid ((X.out.on D.out).on hb); have Y := Lib.hid h7; clear h7 OX D P4 hb; have P5 := Lib.hid trivial)
    | (go_at_call 16; have _g := P5; clear _g; (with_reducible refine (tgto_v a n0 _ _ _ Y.out HL0.out (by omega)).mono ?_); rintro e wn ⟨A6, c6, rfl, h6, hb⟩; replace B := Lib.hid (B.out.trans (hb.mono B.out.size)); (try replace L := Lib.hid (L.out.below hb)); (try replace X := Lib.hid (X.out.on hb)); (try replace X2 := Lib.hid (X2.out.on hb)); (try replace Y := Lib.hid (Y.out.below hb)); (try replace Y2 := Lib.hid (Y2.out.below hb)); (try replace TT := Lib.hid (TT.out.below hb)); (try replace T2 := Lib.hid (T2.out.below hb)); (try replace Z := Lib.hid (Z.out.below hb)); have TT := Lib.hid h6; clear h6 P5; clear hb)
    | (go_at_call 15; (with_reducible refine (tgsame_v a a _ (decide_eq_true rfl) n0 n0 _ _ _ _ _ _ _ TT.out (HR0.out.below B.out) HO0.out HO0.out HL0.out HL0.out (by omega)).mono ?_); rintro e wn ⟨rfl, hb⟩; replace B := Lib.hid (B.out.trans (hb.mono B.out.size)); (try replace L := Lib.hid (L.out.below hb)); (try replace X := Lib.hid (X.out.on hb)); (try replace X2 := Lib.hid (X2.out.on hb)); (try replace Y := Lib.hid (Y.out.below hb)); (try replace Y2 := Lib.hid (Y2.out.below hb)); (try replace TT := Lib.hid (TT.out.below hb)); (try replace T2 := Lib.hid (T2.out.below hb)); (try replace Z := Lib.hid (Z.out.below hb)); clear hb)
    | (go_at_call 12; have _g := TT; clear _g; (with_reducible refine (tgget_v ((tgput a).take kk) _ _ _ GC.out _ (rfl : ([] : List (Nat × List Nat)).length = 0) kk _ _ _ (X.out.take kk) HBK.out HLK.out (by omega) (by omega)).mono ?_); rintro e wn ⟨A9, c9, rfl, h9, hb⟩; replace B := Lib.hid (B.out.trans (hb.mono B.out.size)); (try replace L := Lib.hid (L.out.below hb)); (try replace X := Lib.hid (X.out.on hb)); (try replace X2 := Lib.hid (X2.out.on hb)); (try replace Y := Lib.hid (Y.out.below hb)); (try replace Y2 := Lib.hid (Y2.out.below hb)); (try replace TT := Lib.hid (TT.out.below hb)); (try replace T2 := Lib.hid (T2.out.below hb)); (try replace Z := Lib.hid (Z.out.below hb)); have Z := Lib.hid h9; clear h9; clear hb))
  go_ret
  exact ⟨rfl, B.out⟩

set_option linter.unusedVariables false in
set_option maxHeartbeats 20000000 in
theorem tge_some (a : List (Nat × List Nat)) (A0 : Option Addr) (n0 c0 : Nat) (b : List Nat) (A1 : Option Addr) (n1 c1 t : Nat) (w : World) (hL0 : a.length = n0) (hn0 : n0 ≤ 140737488351232) (hO0 : ByG a) (hD0 : ∀ x ∈ a, x.2.length ≤ 140737488351232) (hR0 : Rws shG (fun _ => True) w A0 a) (hc0 : n0 ≤ c0) (hL1 : b.length = n1) (hc1 : n1 ≤ c1) (hB1 : By b) (hR1 : Rd w w.heap.size A1 b) (ht : t < 65536) (hf : tgfew a = true) (h1 : n1 ≤ 1000) (hP : tgerr a = 0) (hN : (tgput a).length ≠ 0) (j : Nat) (hj : j < a.length) (hC : tgget ((tgput a).take (t % (tgput a).length)) = (a.take j, t % (tgput a).length, 0)) :
    Calls Try.prog 5 #[.slice A0 n0 c0, .slice A1 n1 c1, .int .u16 (t : Int)] w fun e w' => e = .returned (.bool true) ∧ Below w.heap.size w w' := by
  have HR0 := Lib.hid hR0
  have HL0 := Lib.hid hL0
  have HD0 := Lib.hid hD0
  have HO0 := Lib.hid hO0
  clear hR0 hL0 hD0 hO0
  have B := Lib.hid (Below.refl w.heap.size w)
  obtain ⟨q1, q2⟩ := tgfew_of hf
  rw [HL0.out] at q1
  have HF := Lib.hid hf
  have Q2 := Lib.hid q2
  clear hf q2
  have HR1 := Lib.hid hR1
  have HL1 := Lib.hid hL1
  have HB1 := Lib.hid hB1
  clear hR1 hL1 hB1
  have j1 : ¬ (1000 : Int) < (n1 : Int) := by omega
  obtain ⟨i0, hi, hz0, hz1, hz2⟩ := info_parts byte_info
  have EP := Lib.hid hP
  have EA := Lib.hid (tgputA_ok hP)
  have HBX := Lib.hid (tgput_by HO0.out hP)
  obtain ⟨k0, hk0⟩ : ∃ k, Hid ((tgput a).length = k) := ⟨_, Lib.hid rfl⟩
  have hk2 : k0 ≤ 1240 := by have := hk0.out; rw [tgput_len, HL0.out] at this; have := Q2.out; omega
  obtain ⟨k4, hk4⟩ : ∃ k4, k0 + 4 = k4 := ⟨_, rfl⟩
  obtain ⟨k6, hk6⟩ : ∃ k6, k4 + n1 = k6 := ⟨_, rfl⟩
  have GE := Lib.hid (show tgget (tgput a ++ [0, 0, 0, 0] ++ b) = (a, k4, 0) by
    have := tgget_ends a b hP
    rw [hk0.out, hk4] at this
    rw [List.append_assoc]
    exact this)
  have HBG := Lib.hid (show By (tgput a ++ [0, 0, 0, 0] ++ b) from By.app (By.app HBX.out (fun x hx => by simp at hx; omega)) HB1.out)
  have HLG := Lib.hid (show (tgput a ++ [0, 0, 0, 0] ++ b).length = k6 by rw [List.length_append, List.length_append, hk0.out, HL1.out, ← hk6, ← hk4]; rfl)
  have HLT := Lib.hid (show ∀ W : World, Rd (W.alloc (.cells #[.int .u8 0, .int .u8 0, .int .u8 0, .int .u8 0] 5)) (W.alloc (.cells #[.int .u8 0, .int .u8 0, .int .u8 0, .int .u8 0] 5)).heap.size (some ⟨W.heap.size, 0, none⟩) [0, 0, 0, 0] from fun W => Rd.lit_ W [0, 0, 0, 0])
  have m1 : (k0 : Int) + 4 = (k4 : Int) := by omega
  have m2 : IntKind.i64.wrap (k4 : Int) = (k4 : Int) := IntWalk.i64_in _ (by omega)
  have t1 : IntKind.i64.wrap (t : Int) = (t : Int) := IntWalk.i64_in _ (by omega)
  have t2 : wrap64 (t : Int) = (t : Int) := IntWalk.wrap64_in _ (by omega)
  obtain ⟨kk, hkk⟩ : ∃ kk, t % k0 = kk := ⟨_, rfl⟩
  have hk01 : 0 < k0 := by have := hk0.out; omega
  have hkl : kk < k0 := by rw [← hkk]; exact Nat.mod_lt _ hk01
  have m3 : ((k0 : Int) == 0) = false := by rw [beq_eq_false_iff_ne]; omega
  have m4 : (t : Int).tmod (k0 : Int) = (kk : Int) := by rw [Int.tmod_eq_emod_of_nonneg (Int.natCast_nonneg t), ← hkk, Int.natCast_emod]
  have m5 : (0 : Int) ≤ (kk : Int) := by omega
  have HLK := Lib.hid (show ((tgput a).take kk).length = kk by rw [List.length_take, hk0.out]; omega)
  have m6 : ¬ (k0 : Int) = 0 := by omega
  have HBK := Lib.hid (HBX.out.take kk)
  have M7 := Lib.hid (fun c h => (by omega) : ∀ c : Nat, k0 ≤ c → (kk : Int) ≤ (c : Int))
  have GC := Lib.hid (show tgget ((tgput a).take kk) = (a.take j, kk, 0) by
    rw [hk0.out, hkk] at hC
    exact hC)
  have HLJ := Lib.hid (show (a.take j).length = j by rw [List.length_take]; omega)
  have HOJ := Lib.hid (show ByG (a.take j) from fun o ho => HO0.out o (List.mem_of_mem_take ho))
  have hjn : j < n0 := by have := HL0.out; omega
  have m9 : (j : Int) < (n0 : Int) := by omega
  have m10 : (0 : Int) ≤ (j : Int) := by omega
  have m11 : (j : Int) ≤ (c0 : Int) := by omega
  clear hP hN hC hkk hj
  go_enter Try.func5, Try.ntmps5
  go_wp2_with (first
    | (go_at_call 7; (with_reducible refine (speaks21 _).mono ?_); rintro e wn ⟨rfl, hb⟩; replace B := Lib.hid (B.out.trans (hb.mono B.out.size)); (try replace L := Lib.hid (L.out.below hb)); (try replace X := Lib.hid (X.out.on hb)); (try replace X2 := Lib.hid (X2.out.on hb)); (try replace Y := Lib.hid (Y.out.below hb)); (try replace Y2 := Lib.hid (Y2.out.below hb)); (try replace TT := Lib.hid (TT.out.below hb)); (try replace T2 := Lib.hid (T2.out.below hb)); (try replace Z := Lib.hid (Z.out.below hb)); clear hb)
    | (go_at_call 8; (with_reducible refine (tgfew_v a _ HF.out n0 c0 A0 _ _ (HR0.out.below B.out) HL0.out (by omega) HD0.out).mono ?_); rintro e wn ⟨rfl, hb⟩; replace B := Lib.hid (B.out.trans (hb.mono B.out.size)); (try replace L := Lib.hid (L.out.below hb)); (try replace X := Lib.hid (X.out.on hb)); (try replace X2 := Lib.hid (X2.out.on hb)); (try replace Y := Lib.hid (Y.out.below hb)); (try replace Y2 := Lib.hid (Y2.out.below hb)); (try replace TT := Lib.hid (TT.out.below hb)); (try replace T2 := Lib.hid (T2.out.below hb)); (try replace Z := Lib.hid (Z.out.below hb)); clear hb)
    | (go_at_call 10; (with_reducible refine (tgof_v a n0 c0 A0 _ (HR0.out.below B.out) HL0.out (by omega)).mono ?_); rintro e wn ⟨A3, c3, rfl, h3, hb⟩; replace B := Lib.hid (B.out.trans (hb.mono B.out.size)); (try replace L := Lib.hid (L.out.below hb)); (try replace X := Lib.hid (X.out.on hb)); (try replace X2 := Lib.hid (X2.out.on hb)); (try replace Y := Lib.hid (Y.out.below hb)); (try replace Y2 := Lib.hid (Y2.out.below hb)); (try replace TT := Lib.hid (TT.out.below hb)); (try replace T2 := Lib.hid (T2.out.below hb)); (try replace Z := Lib.hid (Z.out.below hb)); have L := Lib.hid h3; clear h3; clear hb)
    | (go_at_call 9; (with_reducible refine (tgput_v a _ EP.out _ EA.out _ hk0.out n0 _ _ _ _ L.out HL0.out (by omega) (Nat.le_trans Q2.out (by decide)) HO0.out).mono ?_); rintro e wn ⟨A4, c4, rfl, h4, h4c, hb⟩; replace B := Lib.hid (B.out.trans (hb.mono B.out.size)); (try replace L := Lib.hid (L.out.below hb)); (try replace X := Lib.hid (X.out.on hb)); (try replace X2 := Lib.hid (X2.out.on hb)); (try replace Y := Lib.hid (Y.out.below hb)); (try replace Y2 := Lib.hid (Y2.out.below hb)); (try replace TT := Lib.hid (TT.out.below hb)); (try replace T2 := Lib.hid (T2.out.below hb)); (try replace Z := Lib.hid (Z.out.below hb)); have X := Lib.hid h4; clear h4; have m8 := M7.out _ h4c; have OX := Lib.hid (show (wn.alloc (.cells #[] 5)).ownsRow wn.heap.size 5 1 (.slice (some ⟨wn.heap.size, 0, none⟩) 0 0) 0 (bvs []) from World.ownsRow_lit wn #[] 0 (Nat.le_refl _) (by unfold maxLen; omega) rfl); have D := Lib.hid ((Below.refl wn.heap.size wn).alloc (Nat.le_refl _) (.cells #[] 5)); have P1 := Lib.hid trivial; clear hb)
    | (at_builtin; have _g := P1; clear _g; refine list_app rfl _ _ _ rfl _ i0 Try.underlying23 hi hz0 hz1 hz2 _ _ _ [] rfl OX.out _ _ k0 _ (tgput a) rfl (X.out.on D.out) hk0.out (by omega) D.out.size ?_; intro A10 c10 w10 h10 hg10; rw [List.nil_append, Nat.zero_add] at h10; rw [Nat.zero_add]; replace D := Lib.hid (D.out.grown hg10 D.out.size (fun g hg => (OX.out.lt g hg).1)); replace OX := Lib.hid h10; clear h10 hg10 P1; have P2 := Lib.hid trivial)
    | (at_builtin; have _g := P2; clear _g; refine list_app rfl _ _ _ rfl _ i0 Try.underlying23 hi hz0 hz1 hz2 _ _ k0 (tgput a) rfl (own_below OX.out ((Below.refl _ _).alloc (Nat.le_refl _) _)) _ _ 4 _ [0, 0, 0, 0] rfl (HLT.out _) rfl (by omega) (D.out.alloc D.out.size _).size ?_; intro A11 c11 w11 h11 hg11; rw [hk4] at h11 ⊢; replace D := Lib.hid ((D.out.alloc D.out.size _).grown hg11 (D.out.alloc D.out.size _).size (fun g hg => (OX.out.lt g hg).1)); replace OX := Lib.hid h11; clear h11 hg11 P2; have P3 := Lib.hid trivial)
    | (at_builtin; have _g := P3; clear _g; refine list_app rfl _ _ _ rfl _ i0 Try.underlying23 hi hz0 hz1 hz2 _ _ k4 (tgput a ++ [0, 0, 0, 0]) rfl OX.out _ _ n1 _ b rfl (HR1.out.on (B.out.trans (D.out.mono B.out.size))) HL1.out (by omega) D.out.size ?_; intro A12 c12 w12 h12 hg12; rw [hk6] at h12 ⊢; replace D := Lib.hid (D.out.grown hg12 D.out.size (fun g hg => (OX.out.lt g hg).1)); replace OX := Lib.hid h12; clear h12 hg12 P3; have P4 := Lib.hid trivial)
    | (go_at_call 12; have _g := P4; clear _g; (with_reducible refine (tgget_v _ a _ _ GE.out n0 HL0.out k6 _ _ _ (Rd.own OX.out) HBG.out HLG.out (by omega) (own_cap OX.out)).mono ?_); rintro e wn ⟨A7, c7, rfl, h7, hb⟩; replace B := Lib.hid ((B.out.trans (D.out.mono B.out.size)).trans (hb.mono (Nat.le_trans B.out.size D.out.size))); replace X := Lib.hid ((X.out.on D.out).on hb); have Y := Lib.hid h7; clear h7 OX D P4 hb; have P5 := Lib.hid trivial)
    | (go_at_call 16; have _g := P5; clear _g; (with_reducible refine (tgto_v a n0 _ _ _ Y.out HL0.out (by omega)).mono ?_); rintro e wn ⟨A6, c6, rfl, h6, hb⟩; replace B := Lib.hid (B.out.trans (hb.mono B.out.size)); (try replace L := Lib.hid (L.out.below hb)); (try replace X := Lib.hid (X.out.on hb)); (try replace X2 := Lib.hid (X2.out.on hb)); (try replace Y := Lib.hid (Y.out.below hb)); (try replace Y2 := Lib.hid (Y2.out.below hb)); (try replace TT := Lib.hid (TT.out.below hb)); (try replace T2 := Lib.hid (T2.out.below hb)); (try replace Z := Lib.hid (Z.out.below hb)); have TT := Lib.hid h6; clear h6 P5; clear hb)
    | (go_at_call 15; (with_reducible refine (tgsame_v a a _ (decide_eq_true rfl) n0 n0 _ _ _ _ _ _ _ TT.out (HR0.out.below B.out) HO0.out HO0.out HL0.out HL0.out (by omega)).mono ?_); rintro e wn ⟨rfl, hb⟩; replace B := Lib.hid (B.out.trans (hb.mono B.out.size)); (try replace L := Lib.hid (L.out.below hb)); (try replace X := Lib.hid (X.out.on hb)); (try replace X2 := Lib.hid (X2.out.on hb)); (try replace Y := Lib.hid (Y.out.below hb)); (try replace Y2 := Lib.hid (Y2.out.below hb)); (try replace TT := Lib.hid (TT.out.below hb)); (try replace T2 := Lib.hid (T2.out.below hb)); (try replace Z := Lib.hid (Z.out.below hb)); clear hb)
    | (go_at_call 12; have _g := TT; clear _g; (with_reducible refine (tgget_v ((tgput a).take kk) _ _ _ GC.out _ HLJ.out kk _ _ _ (X.out.take kk) HBK.out HLK.out (by omega) (by omega)).mono ?_); rintro e wn ⟨A9, c9, rfl, h9, hb⟩; replace B := Lib.hid (B.out.trans (hb.mono B.out.size)); (try replace L := Lib.hid (L.out.below hb)); (try replace X := Lib.hid (X.out.on hb)); (try replace X2 := Lib.hid (X2.out.on hb)); (try replace Y := Lib.hid (Y.out.below hb)); (try replace Y2 := Lib.hid (Y2.out.below hb)); (try replace TT := Lib.hid (TT.out.below hb)); (try replace T2 := Lib.hid (T2.out.below hb)); (try replace Z := Lib.hid (Z.out.below hb)); have Z := Lib.hid h9; clear h9; clear hb))
  replace B := Lib.hid B.out.drew
  replace Z := Lib.hid (Z.out.below (Below.refl _ _).drew)
  clear TT
  go_region_held3 (fun _ => True) (trivial) (first
    | (go_at_call 16; (with_reducible refine (tgto_v (a.take j) j _ _ _ Z.out HLJ.out (by omega)).mono ?_); rintro e wn ⟨A13, c13, rfl, h13, hb⟩; replace B := Lib.hid (B.out.trans (hb.mono B.out.size)); (try replace L := Lib.hid (L.out.below hb)); (try replace X := Lib.hid (X.out.on hb)); (try replace X2 := Lib.hid (X2.out.on hb)); (try replace Y := Lib.hid (Y.out.below hb)); (try replace Y2 := Lib.hid (Y2.out.below hb)); (try replace TT := Lib.hid (TT.out.below hb)); (try replace T2 := Lib.hid (T2.out.below hb)); (try replace Z := Lib.hid (Z.out.below hb)); have T2 := Lib.hid h13; clear h13; clear hb; dsimp only)
    | (go_at_call 15; (with_reducible refine (tgsame_v (a.take j) (a.take j) _ (decide_eq_true rfl) j j _ _ _ _ _ _ _ T2.out ((HR0.out.below B.out).takeG j) HOJ.out HOJ.out HLJ.out HLJ.out (by omega)).mono ?_); rintro e wn ⟨rfl, hb⟩; replace B := Lib.hid (B.out.trans (hb.mono B.out.size)); (try replace L := Lib.hid (L.out.below hb)); (try replace X := Lib.hid (X.out.on hb)); (try replace X2 := Lib.hid (X2.out.on hb)); (try replace Y := Lib.hid (Y.out.below hb)); (try replace Y2 := Lib.hid (Y2.out.below hb)); (try replace TT := Lib.hid (TT.out.below hb)); (try replace T2 := Lib.hid (T2.out.below hb)); (try replace Z := Lib.hid (Z.out.below hb)); clear hb; dsimp only))
  go_wp2_with fail
  go_ret
  exact ⟨rfl, B.out⟩

theorem tge_walk (a : List (Nat × List Nat)) (A0 : Option Addr) (n0 c0 : Nat) (b : List Nat) (A1 : Option Addr) (n1 c1 t : Nat) (w : World) (hL0 : a.length = n0) (hn0 : n0 ≤ 140737488351232) (hO0 : ByG a) (hD0 : ∀ x ∈ a, x.2.length ≤ 140737488351232) (hR0 : Rws shG (fun _ => True) w A0 a) (hc0 : n0 ≤ c0) (hL1 : b.length = n1) (hc1 : n1 ≤ c1) (hB1 : By b) (hR1 : Rd w w.heap.size A1 b) (ht : t < 65536) (hf : tgfew a = true) (h1 : n1 ≤ 1000) :
    Calls Try.prog 5 #[.slice A0 n0 c0, .slice A1 n1 c1, .int .u16 (t : Int)] w fun e w' => e = .returned (.bool true) ∧ Below w.heap.size w w' := by
  by_cases hP : tgerr a = 0
  · by_cases hN : (tgput a).length = 0
    · exact tge_none a A0 n0 c0 b A1 n1 c1 t w hL0 hn0 hO0 hD0 hR0 hL1 hc1 hB1 hR1 ht hf h1 hP hN
    · rcases tgget_cut a hP (t % (tgput a).length) (Nat.mod_lt _ (by omega)) with hC | ⟨j, hj, hC⟩
      · exact tge_short a A0 n0 c0 b A1 n1 c1 t w hL0 hn0 hO0 hD0 hR0 hL1 hc1 hB1 hR1 ht hf h1 hP hN hC
      · exact tge_some a A0 n0 c0 b A1 n1 c1 t w hL0 hn0 hO0 hD0 hR0 hc0 hL1 hc1 hB1 hR1 ht hf h1 hP hN j hj hC
  · exact tge_bad a A0 n0 c0 b A1 n1 c1 t w hL0 hn0 hO0 hD0 hR0 hL1 hc1 hB1 hR1 ht hf h1 hP
end Go.Proofs.Ytldadfmcganejaa
