
/-
  TagsBack's walk. No condition.
-/
import Derived.Test.YtldadfmcganejaaTagV
namespace Go.Proofs.Ytldadfmcganejaa
set_option maxRecDepth 4000
open Go.RowKit

set_option maxHeartbeats 4000000 in
theorem tgb_early (a : List (Nat × List Nat)) (A0 : Option Addr) (n0 c0 : Nat) (A1 : Option Addr) (n1 c1 : Nat) (w : World) (hL0 : a.length = n0) (hn0 : n0 ≤ 140737488351232) (hO0 : ByG a) (hD0 : ∀ x ∈ a, x.2.length ≤ 140737488351232) (hR0 : Rws shG (fun _ => True) w A0 a) (h : ¬ (tgfew a = true ∧ n1 ≤ 1000)) :
    Calls Try.prog 4 #[.slice A0 n0 c0, .slice A1 n1 c1] w fun e w' => e = .returned (.bool true) ∧ Below w.heap.size w w' := by
  have HR0 := Lib.hid hR0
  have HL0 := Lib.hid hL0
  have HD0 := Lib.hid hD0
  have HO0 := Lib.hid hO0
  clear hR0 hL0 hD0 hO0
  have B := Lib.hid (Below.refl w.heap.size w)
  by_cases hf : tgfew a = true
  · have HF := Lib.hid hf
    have j1 : (1000 : Int) < (n1 : Int) := by
      have : ¬ n1 ≤ 1000 := fun h3 => h ⟨hf, h3⟩
      omega
    clear hf h
    go_enter Try.func4, Try.ntmps4
    go_wp2_with (first
      | (go_at_call 7; (with_reducible refine (speaks21 _).mono ?_); rintro e wn ⟨rfl, hb⟩; replace B := Lib.hid (B.out.trans (hb.mono B.out.size)); (try replace L := Lib.hid (L.out.below hb)); (try replace X := Lib.hid (X.out.on hb)); (try replace X2 := Lib.hid (X2.out.on hb)); (try replace Y := Lib.hid (Y.out.below hb)); (try replace Y2 := Lib.hid (Y2.out.below hb)); (try replace TT := Lib.hid (TT.out.below hb)); (try replace T2 := Lib.hid (T2.out.below hb)); (try replace Z := Lib.hid (Z.out.below hb)); clear hb)
      | (go_at_call 8; (with_reducible refine (tgfew_v a _ HF.out n0 c0 A0 _ _ (HR0.out.below B.out) HL0.out (by omega) HD0.out).mono ?_); rintro e wn ⟨rfl, hb⟩; replace B := Lib.hid (B.out.trans (hb.mono B.out.size)); (try replace L := Lib.hid (L.out.below hb)); (try replace X := Lib.hid (X.out.on hb)); (try replace X2 := Lib.hid (X2.out.on hb)); (try replace Y := Lib.hid (Y.out.below hb)); (try replace Y2 := Lib.hid (Y2.out.below hb)); (try replace TT := Lib.hid (TT.out.below hb)); (try replace T2 := Lib.hid (T2.out.below hb)); (try replace Z := Lib.hid (Z.out.below hb)); clear hb))
    go_ret
    exact ⟨rfl, B.out⟩
  · have HF := Lib.hid (Bool.eq_false_iff.2 hf)
    clear hf h
    go_enter Try.func4, Try.ntmps4
    go_wp2_with (first
      | (go_at_call 7; (with_reducible refine (speaks21 _).mono ?_); rintro e wn ⟨rfl, hb⟩; replace B := Lib.hid (B.out.trans (hb.mono B.out.size)); (try replace L := Lib.hid (L.out.below hb)); (try replace X := Lib.hid (X.out.on hb)); (try replace X2 := Lib.hid (X2.out.on hb)); (try replace Y := Lib.hid (Y.out.below hb)); (try replace Y2 := Lib.hid (Y2.out.below hb)); (try replace TT := Lib.hid (TT.out.below hb)); (try replace T2 := Lib.hid (T2.out.below hb)); (try replace Z := Lib.hid (Z.out.below hb)); clear hb)
      | (go_at_call 8; (with_reducible refine (tgfew_v a _ HF.out n0 c0 A0 _ _ (HR0.out.below B.out) HL0.out (by omega) HD0.out).mono ?_); rintro e wn ⟨rfl, hb⟩; replace B := Lib.hid (B.out.trans (hb.mono B.out.size)); (try replace L := Lib.hid (L.out.below hb)); (try replace X := Lib.hid (X.out.on hb)); (try replace X2 := Lib.hid (X2.out.on hb)); (try replace Y := Lib.hid (Y.out.below hb)); (try replace Y2 := Lib.hid (Y2.out.below hb)); (try replace TT := Lib.hid (TT.out.below hb)); (try replace T2 := Lib.hid (T2.out.below hb)); (try replace Z := Lib.hid (Z.out.below hb)); clear hb))
    go_ret
    exact ⟨rfl, B.out⟩

set_option maxHeartbeats 20000000 in
theorem tgb_ok_err (a : List (Nat × List Nat)) (A0 : Option Addr) (n0 c0 : Nat) (b : List Nat) (A1 : Option Addr) (n1 c1 : Nat) (w : World) (hL0 : a.length = n0) (hn0 : n0 ≤ 140737488351232) (hO0 : ByG a) (hD0 : ∀ x ∈ a, x.2.length ≤ 140737488351232) (hR0 : Rws shG (fun _ => True) w A0 a) (hL1 : b.length = n1) (hc1 : n1 ≤ c1) (hB1 : By b) (hR1 : Rd w w.heap.size A1 b) (hf : tgfew a = true) (h1 : n1 ≤ 1000) (hP : tgerr a = 0) (hK : (tgget b).2.2 ≠ 0) :
    Calls Try.prog 4 #[.slice A0 n0 c0, .slice A1 n1 c1] w fun e w' => e = .returned (.bool true) ∧ Below w.heap.size w w' := by
  have HR0 := Lib.hid hR0
  have HL0 := Lib.hid hL0
  have HD0 := Lib.hid hD0
  have HO0 := Lib.hid hO0
  clear hR0 hL0 hD0 hO0
  have B := Lib.hid (Below.refl w.heap.size w)
  obtain ⟨q1, q2⟩ := tgfew_of hf
  rw [HL0.out] at q1
  have HF := Lib.hid hf
  have Q2 := Lib.hid q2
  clear hf q2
  have HR1 := Lib.hid hR1
  have HL1 := Lib.hid hL1
  have HB1 := Lib.hid hB1
  clear hR1 hL1 hB1
  have j1 : ¬ (1000 : Int) < (n1 : Int) := by omega
  obtain ⟨lb, nb, kb, hgb⟩ : ∃ l n k, Hid (tgget b = (l, n, k)) := ⟨_, _, _, Lib.hid rfl⟩
  obtain ⟨mb, hmb⟩ : ∃ n, Hid (lb.length = n) := ⟨_, Lib.hid rfl⟩
  have hlen := tgget_len b HB1.out
  rw [hgb.out, HL1.out] at hlen
  dsimp only at hlen
  rw [hmb.out] at hlen
  obtain ⟨slen, snb⟩ := hlen
  have GB := Lib.hid (tgget_byG b HB1.out hgb.out)
  have EP := Lib.hid hP
  have EA := Lib.hid (tgputA_ok hP)
  have GO := Lib.hid (tgget_own a hP)
  have HBX := Lib.hid (tgput_by HO0.out hP)
  obtain ⟨k0, hk0⟩ : ∃ k, Hid ((tgput a).length = k) := ⟨_, Lib.hid rfl⟩
  have hk2 : k0 ≤ 1240 := by have := hk0.out; rw [tgput_len, HL0.out] at this; have := Q2.out; omega
  rw [hk0.out] at GO
  clear hP
  rw [hgb.out] at hK
  dsimp only at hK
  have EE := tgget_err b (by rw [hgb.out]; exact hK)
  rw [hgb.out] at EE
  obtain ⟨e3, e4⟩ := EE
  dsimp only at e3 e4
  obtain rfl : mb = 0 := by rw [← hmb.out, e3]; rfl
  subst e4
  have j3 : ((kb : Int) != 0) = true := by rw [bne_iff_ne]; omega
  clear e3 hK
  go_enter Try.func4, Try.ntmps4
  go_wp2_with (first
    | (go_at_call 7; (with_reducible refine (speaks21 _).mono ?_); rintro e wn ⟨rfl, hb⟩; replace B := Lib.hid (B.out.trans (hb.mono B.out.size)); (try replace L := Lib.hid (L.out.below hb)); (try replace X := Lib.hid (X.out.on hb)); (try replace X2 := Lib.hid (X2.out.on hb)); (try replace Y := Lib.hid (Y.out.below hb)); (try replace Y2 := Lib.hid (Y2.out.below hb)); (try replace TT := Lib.hid (TT.out.below hb)); (try replace T2 := Lib.hid (T2.out.below hb)); (try replace Z := Lib.hid (Z.out.below hb)); clear hb)
    | (go_at_call 8; (with_reducible refine (tgfew_v a _ HF.out n0 c0 A0 _ _ (HR0.out.below B.out) HL0.out (by omega) HD0.out).mono ?_); rintro e wn ⟨rfl, hb⟩; replace B := Lib.hid (B.out.trans (hb.mono B.out.size)); (try replace L := Lib.hid (L.out.below hb)); (try replace X := Lib.hid (X.out.on hb)); (try replace X2 := Lib.hid (X2.out.on hb)); (try replace Y := Lib.hid (Y.out.below hb)); (try replace Y2 := Lib.hid (Y2.out.below hb)); (try replace TT := Lib.hid (TT.out.below hb)); (try replace T2 := Lib.hid (T2.out.below hb)); (try replace Z := Lib.hid (Z.out.below hb)); clear hb)
    | (go_at_call 10; (with_reducible refine (tgof_v a n0 c0 A0 _ (HR0.out.below B.out) HL0.out (by omega)).mono ?_); rintro e wn ⟨A3, c3, rfl, h3, hb⟩; replace B := Lib.hid (B.out.trans (hb.mono B.out.size)); (try replace L := Lib.hid (L.out.below hb)); (try replace X := Lib.hid (X.out.on hb)); (try replace X2 := Lib.hid (X2.out.on hb)); (try replace Y := Lib.hid (Y.out.below hb)); (try replace Y2 := Lib.hid (Y2.out.below hb)); (try replace TT := Lib.hid (TT.out.below hb)); (try replace T2 := Lib.hid (T2.out.below hb)); (try replace Z := Lib.hid (Z.out.below hb)); have L := Lib.hid h3; clear h3; clear hb)
    | (go_at_call 9; (with_reducible refine (tgput_v a _ EP.out _ EA.out _ hk0.out n0 _ _ _ _ L.out HL0.out (by omega) (Nat.le_trans Q2.out (by decide)) HO0.out).mono ?_); rintro e wn ⟨A4, c4, rfl, h4, h4c, hb⟩; replace B := Lib.hid (B.out.trans (hb.mono B.out.size)); (try replace L := Lib.hid (L.out.below hb)); (try replace X := Lib.hid (X.out.on hb)); (try replace X2 := Lib.hid (X2.out.on hb)); (try replace Y := Lib.hid (Y.out.below hb)); (try replace Y2 := Lib.hid (Y2.out.below hb)); (try replace TT := Lib.hid (TT.out.below hb)); (try replace T2 := Lib.hid (T2.out.below hb)); (try replace Z := Lib.hid (Z.out.below hb)); have X := Lib.hid h4; clear h4; clear hb)
    | (go_at_call 12; (with_reducible refine (tgget_v (tgput a) a _ _ GO.out n0 HL0.out k0 _ _ _ X.out HBX.out hk0.out (by omega) h4c).mono ?_); rintro e wn ⟨A5, c5, rfl, h5, hb⟩; replace B := Lib.hid (B.out.trans (hb.mono B.out.size)); (try replace L := Lib.hid (L.out.below hb)); (try replace X := Lib.hid (X.out.on hb)); (try replace X2 := Lib.hid (X2.out.on hb)); (try replace Y := Lib.hid (Y.out.below hb)); (try replace Y2 := Lib.hid (Y2.out.below hb)); (try replace TT := Lib.hid (TT.out.below hb)); (try replace T2 := Lib.hid (T2.out.below hb)); (try replace Z := Lib.hid (Z.out.below hb)); have Y := Lib.hid h5; clear h5; clear hb)
    | (go_at_call 16; (with_reducible refine (tgto_v a n0 _ _ _ Y.out HL0.out (by omega)).mono ?_); rintro e wn ⟨A6, c6, rfl, h6, hb⟩; replace B := Lib.hid (B.out.trans (hb.mono B.out.size)); (try replace L := Lib.hid (L.out.below hb)); (try replace X := Lib.hid (X.out.on hb)); (try replace X2 := Lib.hid (X2.out.on hb)); (try replace Y := Lib.hid (Y.out.below hb)); (try replace Y2 := Lib.hid (Y2.out.below hb)); (try replace TT := Lib.hid (TT.out.below hb)); (try replace T2 := Lib.hid (T2.out.below hb)); (try replace Z := Lib.hid (Z.out.below hb)); have TT := Lib.hid h6; clear h6; clear hb)
    | (go_at_call 15; (with_reducible refine (tgsame_v a a _ (decide_eq_true rfl) n0 n0 _ _ _ _ _ _ _ TT.out (HR0.out.below B.out) HO0.out HO0.out HL0.out HL0.out (by omega)).mono ?_); rintro e wn ⟨rfl, hb⟩; replace B := Lib.hid (B.out.trans (hb.mono B.out.size)); (try replace L := Lib.hid (L.out.below hb)); (try replace X := Lib.hid (X.out.on hb)); (try replace X2 := Lib.hid (X2.out.on hb)); (try replace Y := Lib.hid (Y.out.below hb)); (try replace Y2 := Lib.hid (Y2.out.below hb)); (try replace TT := Lib.hid (TT.out.below hb)); (try replace T2 := Lib.hid (T2.out.below hb)); (try replace Z := Lib.hid (Z.out.below hb)); clear hb)
    | (go_at_call 12; (with_reducible refine (tgget_v b lb _ _ hgb.out _ hmb.out _ c1 _ _ (HR1.out.on B.out) HB1.out HL1.out (by omega) hc1).mono ?_); rintro e wn ⟨A7, c7, rfl, h7, hb⟩; replace B := Lib.hid (B.out.trans (hb.mono B.out.size)); (try replace L := Lib.hid (L.out.below hb)); (try replace X := Lib.hid (X.out.on hb)); (try replace X2 := Lib.hid (X2.out.on hb)); (try replace Y := Lib.hid (Y.out.below hb)); (try replace Y2 := Lib.hid (Y2.out.below hb)); (try replace TT := Lib.hid (TT.out.below hb)); (try replace T2 := Lib.hid (T2.out.below hb)); (try replace Z := Lib.hid (Z.out.below hb)); have Y2 := Lib.hid h7; clear h7; clear hb))
  go_ret
  exact ⟨rfl, B.out⟩

set_option maxHeartbeats 20000000 in
theorem tgb_ok_get (a : List (Nat × List Nat)) (A0 : Option Addr) (n0 c0 : Nat) (b : List Nat) (A1 : Option Addr) (n1 c1 : Nat) (w : World) (hL0 : a.length = n0) (hn0 : n0 ≤ 140737488351232) (hO0 : ByG a) (hD0 : ∀ x ∈ a, x.2.length ≤ 140737488351232) (hR0 : Rws shG (fun _ => True) w A0 a) (hL1 : b.length = n1) (hc1 : n1 ≤ c1) (hB1 : By b) (hR1 : Rd w w.heap.size A1 b) (hf : tgfew a = true) (h1 : n1 ≤ 1000) (hP : tgerr a = 0) (hK : (tgget b).2.2 = 0) :
    Calls Try.prog 4 #[.slice A0 n0 c0, .slice A1 n1 c1] w fun e w' => e = .returned (.bool true) ∧ Below w.heap.size w w' := by
  have HR0 := Lib.hid hR0
  have HL0 := Lib.hid hL0
  have HD0 := Lib.hid hD0
  have HO0 := Lib.hid hO0
  clear hR0 hL0 hD0 hO0
  have B := Lib.hid (Below.refl w.heap.size w)
  obtain ⟨q1, q2⟩ := tgfew_of hf
  rw [HL0.out] at q1
  have HF := Lib.hid hf
  have Q2 := Lib.hid q2
  clear hf q2
  have HR1 := Lib.hid hR1
  have HL1 := Lib.hid hL1
  have HB1 := Lib.hid hB1
  clear hR1 hL1 hB1
  have j1 : ¬ (1000 : Int) < (n1 : Int) := by omega
  obtain ⟨lb, nb, kb, hgb⟩ : ∃ l n k, Hid (tgget b = (l, n, k)) := ⟨_, _, _, Lib.hid rfl⟩
  obtain ⟨mb, hmb⟩ : ∃ n, Hid (lb.length = n) := ⟨_, Lib.hid rfl⟩
  have hlen := tgget_len b HB1.out
  rw [hgb.out, HL1.out] at hlen
  dsimp only at hlen
  rw [hmb.out] at hlen
  obtain ⟨slen, snb⟩ := hlen
  have GB := Lib.hid (tgget_byG b HB1.out hgb.out)
  have EP := Lib.hid hP
  have EA := Lib.hid (tgputA_ok hP)
  have GO := Lib.hid (tgget_own a hP)
  have HBX := Lib.hid (tgput_by HO0.out hP)
  obtain ⟨k0, hk0⟩ : ∃ k, Hid ((tgput a).length = k) := ⟨_, Lib.hid rfl⟩
  have hk2 : k0 ≤ 1240 := by have := hk0.out; rw [tgput_len, HL0.out] at this; have := Q2.out; omega
  rw [hk0.out] at GO
  clear hP
  rw [hgb.out] at hK
  dsimp only at hK
  subst hK
  obtain ⟨g1, g2, -, g4, g5⟩ := tgput_get b HB1.out (by rw [hgb.out])
  rw [hgb.out] at g1 g2 g4 g5
  dsimp only at g1 g2 g4 g5
  obtain ⟨k5, hk5⟩ : ∃ k, Hid ((tgput lb).length = k) := ⟨_, Lib.hid rfl⟩
  rw [hk5.out] at g1 g5
  rw [HL1.out] at g4 g5
  have EB := Lib.hid g2
  have EBA := Lib.hid (tgputA_ok g2)
  have dlb : tgdat lb ≤ 1000 := by
    have e5 := congrArg List.length g1
    rw [hk5.out, List.length_take, HL1.out] at e5
    have e6 := hk5.out
    rw [tgput_len] at e6
    omega
  have DLB := Lib.hid dlb
  have HX5 := Lib.hid g1
  have h5n : k5 ≤ n1 := by rcases g5 with ⟨e7, -⟩ | ⟨e7, -⟩ <;> omega
  have HLX := Lib.hid (show (b.take k5).length = k5 by rw [List.length_take, HL1.out]; omega)
  have j4 : ¬ (n1 : Int) < (nb : Int) := by omega
  have j5 : ¬ (nb : Int) < (k5 : Int) := by rcases g5 with ⟨e7, -⟩ | ⟨e7, -⟩ <;> omega
  have j6 : (0 : Int) ≤ (k5 : Int) := by omega
  have j7 : (k5 : Int) ≤ (c1 : Int) := by omega
  clear g1 g2 dlb
  rcases g5 with ⟨g6, g7⟩ | ⟨g6, g7⟩
  · subst g6
    subst g7
    clear g4
    go_enter Try.func4, Try.ntmps4
    go_wp2_with (first
      | (go_at_call 7; (with_reducible refine (speaks21 _).mono ?_); rintro e wn ⟨rfl, hb⟩; replace B := Lib.hid (B.out.trans (hb.mono B.out.size)); (try replace L := Lib.hid (L.out.below hb)); (try replace X := Lib.hid (X.out.on hb)); (try replace X2 := Lib.hid (X2.out.on hb)); (try replace Y := Lib.hid (Y.out.below hb)); (try replace Y2 := Lib.hid (Y2.out.below hb)); (try replace TT := Lib.hid (TT.out.below hb)); (try replace T2 := Lib.hid (T2.out.below hb)); (try replace Z := Lib.hid (Z.out.below hb)); clear hb)
      | (go_at_call 8; (with_reducible refine (tgfew_v a _ HF.out n0 c0 A0 _ _ (HR0.out.below B.out) HL0.out (by omega) HD0.out).mono ?_); rintro e wn ⟨rfl, hb⟩; replace B := Lib.hid (B.out.trans (hb.mono B.out.size)); (try replace L := Lib.hid (L.out.below hb)); (try replace X := Lib.hid (X.out.on hb)); (try replace X2 := Lib.hid (X2.out.on hb)); (try replace Y := Lib.hid (Y.out.below hb)); (try replace Y2 := Lib.hid (Y2.out.below hb)); (try replace TT := Lib.hid (TT.out.below hb)); (try replace T2 := Lib.hid (T2.out.below hb)); (try replace Z := Lib.hid (Z.out.below hb)); clear hb)
      | (go_at_call 10; (with_reducible refine (tgof_v a n0 c0 A0 _ (HR0.out.below B.out) HL0.out (by omega)).mono ?_); rintro e wn ⟨A3, c3, rfl, h3, hb⟩; replace B := Lib.hid (B.out.trans (hb.mono B.out.size)); (try replace L := Lib.hid (L.out.below hb)); (try replace X := Lib.hid (X.out.on hb)); (try replace X2 := Lib.hid (X2.out.on hb)); (try replace Y := Lib.hid (Y.out.below hb)); (try replace Y2 := Lib.hid (Y2.out.below hb)); (try replace TT := Lib.hid (TT.out.below hb)); (try replace T2 := Lib.hid (T2.out.below hb)); (try replace Z := Lib.hid (Z.out.below hb)); have L := Lib.hid h3; clear h3; clear hb)
      | (go_at_call 9; (with_reducible refine (tgput_v a _ EP.out _ EA.out _ hk0.out n0 _ _ _ _ L.out HL0.out (by omega) (Nat.le_trans Q2.out (by decide)) HO0.out).mono ?_); rintro e wn ⟨A4, c4, rfl, h4, h4c, hb⟩; replace B := Lib.hid (B.out.trans (hb.mono B.out.size)); (try replace L := Lib.hid (L.out.below hb)); (try replace X := Lib.hid (X.out.on hb)); (try replace X2 := Lib.hid (X2.out.on hb)); (try replace Y := Lib.hid (Y.out.below hb)); (try replace Y2 := Lib.hid (Y2.out.below hb)); (try replace TT := Lib.hid (TT.out.below hb)); (try replace T2 := Lib.hid (T2.out.below hb)); (try replace Z := Lib.hid (Z.out.below hb)); have X := Lib.hid h4; clear h4; clear hb)
      | (go_at_call 12; (with_reducible refine (tgget_v (tgput a) a _ _ GO.out n0 HL0.out k0 _ _ _ X.out HBX.out hk0.out (by omega) h4c).mono ?_); rintro e wn ⟨A5, c5, rfl, h5, hb⟩; replace B := Lib.hid (B.out.trans (hb.mono B.out.size)); (try replace L := Lib.hid (L.out.below hb)); (try replace X := Lib.hid (X.out.on hb)); (try replace X2 := Lib.hid (X2.out.on hb)); (try replace Y := Lib.hid (Y.out.below hb)); (try replace Y2 := Lib.hid (Y2.out.below hb)); (try replace TT := Lib.hid (TT.out.below hb)); (try replace T2 := Lib.hid (T2.out.below hb)); (try replace Z := Lib.hid (Z.out.below hb)); have Y := Lib.hid h5; clear h5; clear hb)
      | (go_at_call 16; (with_reducible refine (tgto_v a n0 _ _ _ Y.out HL0.out (by omega)).mono ?_); rintro e wn ⟨A6, c6, rfl, h6, hb⟩; replace B := Lib.hid (B.out.trans (hb.mono B.out.size)); (try replace L := Lib.hid (L.out.below hb)); (try replace X := Lib.hid (X.out.on hb)); (try replace X2 := Lib.hid (X2.out.on hb)); (try replace Y := Lib.hid (Y.out.below hb)); (try replace Y2 := Lib.hid (Y2.out.below hb)); (try replace TT := Lib.hid (TT.out.below hb)); (try replace T2 := Lib.hid (T2.out.below hb)); (try replace Z := Lib.hid (Z.out.below hb)); have TT := Lib.hid h6; clear h6; clear hb)
      | (go_at_call 15; (with_reducible refine (tgsame_v a a _ (decide_eq_true rfl) n0 n0 _ _ _ _ _ _ _ TT.out (HR0.out.below B.out) HO0.out HO0.out HL0.out HL0.out (by omega)).mono ?_); rintro e wn ⟨rfl, hb⟩; replace B := Lib.hid (B.out.trans (hb.mono B.out.size)); (try replace L := Lib.hid (L.out.below hb)); (try replace X := Lib.hid (X.out.on hb)); (try replace X2 := Lib.hid (X2.out.on hb)); (try replace Y := Lib.hid (Y.out.below hb)); (try replace Y2 := Lib.hid (Y2.out.below hb)); (try replace TT := Lib.hid (TT.out.below hb)); (try replace T2 := Lib.hid (T2.out.below hb)); (try replace Z := Lib.hid (Z.out.below hb)); clear hb)
      | (go_at_call 12; (with_reducible refine (tgget_v b lb _ _ hgb.out _ hmb.out _ c1 _ _ (HR1.out.on B.out) HB1.out HL1.out (by omega) hc1).mono ?_); rintro e wn ⟨A7, c7, rfl, h7, hb⟩; replace B := Lib.hid (B.out.trans (hb.mono B.out.size)); (try replace L := Lib.hid (L.out.below hb)); (try replace X := Lib.hid (X.out.on hb)); (try replace X2 := Lib.hid (X2.out.on hb)); (try replace Y := Lib.hid (Y.out.below hb)); (try replace Y2 := Lib.hid (Y2.out.below hb)); (try replace TT := Lib.hid (TT.out.below hb)); (try replace T2 := Lib.hid (T2.out.below hb)); (try replace Z := Lib.hid (Z.out.below hb)); have Y2 := Lib.hid h7; clear h7; clear hb)
      | (go_at_call 9; (with_reducible refine (tgput_v lb _ EB.out _ EBA.out _ hk5.out _ _ _ _ _ Y2.out hmb.out (by omega) (Nat.le_trans DLB.out (by decide)) GB.out).mono ?_); rintro e wn ⟨A8, c8, rfl, h8, h8c, hb⟩; replace B := Lib.hid (B.out.trans (hb.mono B.out.size)); (try replace L := Lib.hid (L.out.below hb)); (try replace X := Lib.hid (X.out.on hb)); (try replace X2 := Lib.hid (X2.out.on hb)); (try replace Y := Lib.hid (Y.out.below hb)); (try replace Y2 := Lib.hid (Y2.out.below hb)); (try replace TT := Lib.hid (TT.out.below hb)); (try replace T2 := Lib.hid (T2.out.below hb)); (try replace Z := Lib.hid (Z.out.below hb)); have X2 := Lib.hid h8; clear h8 h8c; clear hb)
      | (go_at_call 14; (with_reducible refine (equal_yes (tgput lb) _ _ _ _ _ _ _ _ X2.out ((HR1.out.on B.out).take _) hk5.out HLX.out (by omega) HX5.out).mono ?_); rintro e wn ⟨rfl, hb⟩; replace B := Lib.hid (B.out.trans (hb.mono B.out.size)); (try replace L := Lib.hid (L.out.below hb)); (try replace X := Lib.hid (X.out.on hb)); (try replace X2 := Lib.hid (X2.out.on hb)); (try replace Y := Lib.hid (Y.out.below hb)); (try replace Y2 := Lib.hid (Y2.out.below hb)); (try replace TT := Lib.hid (TT.out.below hb)); (try replace T2 := Lib.hid (T2.out.below hb)); (try replace Z := Lib.hid (Z.out.below hb)); clear hb))
    go_ret
    exact ⟨rfl, B.out⟩
  · obtain ⟨bb, oo, x', rfl, -, -, -⟩ := HR1.out.at_ (k := 0) (by rw [HL1.out]; omega)
    have j8 : ((nb : Int) == (k5 : Int)) = false := by rw [beq_eq_false_iff_ne]; omega
    have j9 : (k5 : Int) + 4 = (nb : Int) := by omega
    have j10 : IntKind.i64.wrap (nb : Int) = (nb : Int) := IntWalk.i64_in _ (by omega)
    have j11 : (k5 : Int) ≤ (nb : Int) := by omega
    have j12 : (nb : Int) ≤ (c1 : Int) := by omega
    have j13 : ¬ c1 = k5 := by omega
    have j14 : nb - k5 = 4 := by omega
    have X3 := Lib.hid (show Rd w w.heap.size (some ⟨bb, oo + k5, none⟩) [0, 0, 0, 0] by
      have e8 := (HR1.out.take nb).cutG (f := k5) (c := c1) (by rw [List.length_take, HL1.out]; omega)
      rw [if_neg j13, g7] at e8
      exact e8)
    have HLT := Lib.hid (show ∀ W : World, Rd (W.alloc (.cells #[.int .u8 0, .int .u8 0, .int .u8 0, .int .u8 0] 5)) (W.alloc (.cells #[.int .u8 0, .int .u8 0, .int .u8 0, .int .u8 0] 5)).heap.size (some ⟨W.heap.size, 0, none⟩) [0, 0, 0, 0] from fun W => Rd.lit_ W [0, 0, 0, 0])
    clear g4 g6 g7
    go_enter Try.func4, Try.ntmps4
    go_wp2_with (first
      | (go_at_call 7; (with_reducible refine (speaks21 _).mono ?_); rintro e wn ⟨rfl, hb⟩; replace B := Lib.hid (B.out.trans (hb.mono B.out.size)); (try replace L := Lib.hid (L.out.below hb)); (try replace X := Lib.hid (X.out.on hb)); (try replace X2 := Lib.hid (X2.out.on hb)); (try replace Y := Lib.hid (Y.out.below hb)); (try replace Y2 := Lib.hid (Y2.out.below hb)); (try replace TT := Lib.hid (TT.out.below hb)); (try replace T2 := Lib.hid (T2.out.below hb)); (try replace Z := Lib.hid (Z.out.below hb)); clear hb)
      | (go_at_call 8; (with_reducible refine (tgfew_v a _ HF.out n0 c0 A0 _ _ (HR0.out.below B.out) HL0.out (by omega) HD0.out).mono ?_); rintro e wn ⟨rfl, hb⟩; replace B := Lib.hid (B.out.trans (hb.mono B.out.size)); (try replace L := Lib.hid (L.out.below hb)); (try replace X := Lib.hid (X.out.on hb)); (try replace X2 := Lib.hid (X2.out.on hb)); (try replace Y := Lib.hid (Y.out.below hb)); (try replace Y2 := Lib.hid (Y2.out.below hb)); (try replace TT := Lib.hid (TT.out.below hb)); (try replace T2 := Lib.hid (T2.out.below hb)); (try replace Z := Lib.hid (Z.out.below hb)); clear hb)
      | (go_at_call 10; (with_reducible refine (tgof_v a n0 c0 A0 _ (HR0.out.below B.out) HL0.out (by omega)).mono ?_); rintro e wn ⟨A3, c3, rfl, h3, hb⟩; replace B := Lib.hid (B.out.trans (hb.mono B.out.size)); (try replace L := Lib.hid (L.out.below hb)); (try replace X := Lib.hid (X.out.on hb)); (try replace X2 := Lib.hid (X2.out.on hb)); (try replace Y := Lib.hid (Y.out.below hb)); (try replace Y2 := Lib.hid (Y2.out.below hb)); (try replace TT := Lib.hid (TT.out.below hb)); (try replace T2 := Lib.hid (T2.out.below hb)); (try replace Z := Lib.hid (Z.out.below hb)); have L := Lib.hid h3; clear h3; clear hb)
      | (go_at_call 9; (with_reducible refine (tgput_v a _ EP.out _ EA.out _ hk0.out n0 _ _ _ _ L.out HL0.out (by omega) (Nat.le_trans Q2.out (by decide)) HO0.out).mono ?_); rintro e wn ⟨A4, c4, rfl, h4, h4c, hb⟩; replace B := Lib.hid (B.out.trans (hb.mono B.out.size)); (try replace L := Lib.hid (L.out.below hb)); (try replace X := Lib.hid (X.out.on hb)); (try replace X2 := Lib.hid (X2.out.on hb)); (try replace Y := Lib.hid (Y.out.below hb)); (try replace Y2 := Lib.hid (Y2.out.below hb)); (try replace TT := Lib.hid (TT.out.below hb)); (try replace T2 := Lib.hid (T2.out.below hb)); (try replace Z := Lib.hid (Z.out.below hb)); have X := Lib.hid h4; clear h4; clear hb)
      | (go_at_call 12; (with_reducible refine (tgget_v (tgput a) a _ _ GO.out n0 HL0.out k0 _ _ _ X.out HBX.out hk0.out (by omega) h4c).mono ?_); rintro e wn ⟨A5, c5, rfl, h5, hb⟩; replace B := Lib.hid (B.out.trans (hb.mono B.out.size)); (try replace L := Lib.hid (L.out.below hb)); (try replace X := Lib.hid (X.out.on hb)); (try replace X2 := Lib.hid (X2.out.on hb)); (try replace Y := Lib.hid (Y.out.below hb)); (try replace Y2 := Lib.hid (Y2.out.below hb)); (try replace TT := Lib.hid (TT.out.below hb)); (try replace T2 := Lib.hid (T2.out.below hb)); (try replace Z := Lib.hid (Z.out.below hb)); have Y := Lib.hid h5; clear h5; clear hb)
      | (go_at_call 16; (with_reducible refine (tgto_v a n0 _ _ _ Y.out HL0.out (by omega)).mono ?_); rintro e wn ⟨A6, c6, rfl, h6, hb⟩; replace B := Lib.hid (B.out.trans (hb.mono B.out.size)); (try replace L := Lib.hid (L.out.below hb)); (try replace X := Lib.hid (X.out.on hb)); (try replace X2 := Lib.hid (X2.out.on hb)); (try replace Y := Lib.hid (Y.out.below hb)); (try replace Y2 := Lib.hid (Y2.out.below hb)); (try replace TT := Lib.hid (TT.out.below hb)); (try replace T2 := Lib.hid (T2.out.below hb)); (try replace Z := Lib.hid (Z.out.below hb)); have TT := Lib.hid h6; clear h6; clear hb)
      | (go_at_call 15; (with_reducible refine (tgsame_v a a _ (decide_eq_true rfl) n0 n0 _ _ _ _ _ _ _ TT.out (HR0.out.below B.out) HO0.out HO0.out HL0.out HL0.out (by omega)).mono ?_); rintro e wn ⟨rfl, hb⟩; replace B := Lib.hid (B.out.trans (hb.mono B.out.size)); (try replace L := Lib.hid (L.out.below hb)); (try replace X := Lib.hid (X.out.on hb)); (try replace X2 := Lib.hid (X2.out.on hb)); (try replace Y := Lib.hid (Y.out.below hb)); (try replace Y2 := Lib.hid (Y2.out.below hb)); (try replace TT := Lib.hid (TT.out.below hb)); (try replace T2 := Lib.hid (T2.out.below hb)); (try replace Z := Lib.hid (Z.out.below hb)); clear hb)
      | (go_at_call 12; (with_reducible refine (tgget_v b lb _ _ hgb.out _ hmb.out _ c1 _ _ (HR1.out.on B.out) HB1.out HL1.out (by omega) hc1).mono ?_); rintro e wn ⟨A7, c7, rfl, h7, hb⟩; replace B := Lib.hid (B.out.trans (hb.mono B.out.size)); (try replace L := Lib.hid (L.out.below hb)); (try replace X := Lib.hid (X.out.on hb)); (try replace X2 := Lib.hid (X2.out.on hb)); (try replace Y := Lib.hid (Y.out.below hb)); (try replace Y2 := Lib.hid (Y2.out.below hb)); (try replace TT := Lib.hid (TT.out.below hb)); (try replace T2 := Lib.hid (T2.out.below hb)); (try replace Z := Lib.hid (Z.out.below hb)); have Y2 := Lib.hid h7; clear h7; clear hb)
      | (go_at_call 9; (with_reducible refine (tgput_v lb _ EB.out _ EBA.out _ hk5.out _ _ _ _ _ Y2.out hmb.out (by omega) (Nat.le_trans DLB.out (by decide)) GB.out).mono ?_); rintro e wn ⟨A8, c8, rfl, h8, h8c, hb⟩; replace B := Lib.hid (B.out.trans (hb.mono B.out.size)); (try replace L := Lib.hid (L.out.below hb)); (try replace X := Lib.hid (X.out.on hb)); (try replace X2 := Lib.hid (X2.out.on hb)); (try replace Y := Lib.hid (Y.out.below hb)); (try replace Y2 := Lib.hid (Y2.out.below hb)); (try replace TT := Lib.hid (TT.out.below hb)); (try replace T2 := Lib.hid (T2.out.below hb)); (try replace Z := Lib.hid (Z.out.below hb)); have X2 := Lib.hid h8; clear h8 h8c; clear hb)
      | (go_at_call 14; (with_reducible refine (equal_yes (tgput lb) _ _ _ _ _ _ _ _ X2.out ((HR1.out.on B.out).take _) hk5.out HLX.out (by omega) HX5.out).mono ?_); rintro e wn ⟨rfl, hb⟩; replace B := Lib.hid (B.out.trans (hb.mono B.out.size)); (try replace L := Lib.hid (L.out.below hb)); (try replace X := Lib.hid (X.out.on hb)); (try replace X2 := Lib.hid (X2.out.on hb)); (try replace Y := Lib.hid (Y.out.below hb)); (try replace Y2 := Lib.hid (Y2.out.below hb)); (try replace TT := Lib.hid (TT.out.below hb)); (try replace T2 := Lib.hid (T2.out.below hb)); (try replace Z := Lib.hid (Z.out.below hb)); clear hb)
      | (go_at_call 14; (with_reducible refine (equal_yes [0, 0, 0, 0] [0, 0, 0, 0] 4 4 _ _ _ _ _ (X3.out.on (B.out.trans (((Below.refl _ _).alloc (Nat.le_refl _) _).mono B.out.size))) (HLT.out _) rfl rfl (by omega) rfl).mono ?_); rintro e wn ⟨rfl, hb⟩; replace B := Lib.hid ((B.out.alloc B.out.size _).trans (hb.mono (B.out.alloc B.out.size _).size)); (try replace L := Lib.hid (L.out.below hb)); (try replace X := Lib.hid (X.out.on hb)); (try replace X2 := Lib.hid (X2.out.on hb)); (try replace Y := Lib.hid (Y.out.below hb)); (try replace Y2 := Lib.hid (Y2.out.below hb)); (try replace TT := Lib.hid (TT.out.below hb)); (try replace T2 := Lib.hid (T2.out.below hb)); (try replace Z := Lib.hid (Z.out.below hb)); clear hb))
    go_ret
    exact ⟨rfl, B.out⟩

set_option maxHeartbeats 20000000 in
theorem tgb_bad_err (a : List (Nat × List Nat)) (A0 : Option Addr) (n0 c0 : Nat) (b : List Nat) (A1 : Option Addr) (n1 c1 : Nat) (w : World) (hL0 : a.length = n0) (hn0 : n0 ≤ 140737488351232) (hO0 : ByG a) (hD0 : ∀ x ∈ a, x.2.length ≤ 140737488351232) (hR0 : Rws shG (fun _ => True) w A0 a) (hL1 : b.length = n1) (hc1 : n1 ≤ c1) (hB1 : By b) (hR1 : Rd w w.heap.size A1 b) (hf : tgfew a = true) (h1 : n1 ≤ 1000) (hP : ¬ tgerr a = 0) (hK : (tgget b).2.2 ≠ 0) :
    Calls Try.prog 4 #[.slice A0 n0 c0, .slice A1 n1 c1] w fun e w' => e = .returned (.bool true) ∧ Below w.heap.size w w' := by
  have HR0 := Lib.hid hR0
  have HL0 := Lib.hid hL0
  have HD0 := Lib.hid hD0
  have HO0 := Lib.hid hO0
  clear hR0 hL0 hD0 hO0
  have B := Lib.hid (Below.refl w.heap.size w)
  obtain ⟨q1, q2⟩ := tgfew_of hf
  rw [HL0.out] at q1
  have HF := Lib.hid hf
  have Q2 := Lib.hid q2
  clear hf q2
  have HR1 := Lib.hid hR1
  have HL1 := Lib.hid hL1
  have HB1 := Lib.hid hB1
  clear hR1 hL1 hB1
  have j1 : ¬ (1000 : Int) < (n1 : Int) := by omega
  obtain ⟨lb, nb, kb, hgb⟩ : ∃ l n k, Hid (tgget b = (l, n, k)) := ⟨_, _, _, Lib.hid rfl⟩
  obtain ⟨mb, hmb⟩ : ∃ n, Hid (lb.length = n) := ⟨_, Lib.hid rfl⟩
  have hlen := tgget_len b HB1.out
  rw [hgb.out, HL1.out] at hlen
  dsimp only at hlen
  rw [hmb.out] at hlen
  obtain ⟨slen, snb⟩ := hlen
  have GB := Lib.hid (tgget_byG b HB1.out hgb.out)
  obtain ⟨e0, he0⟩ : ∃ e, Hid (tgerr a = e) := ⟨_, Lib.hid rfl⟩
  have e1 : e0 ≠ 0 := fun h => hP (he0.out.trans h)
  have EA := Lib.hid (tgputA_bad he0.out e1)
  have j2 : ((e0 : Int) == 0) = false := by rw [beq_eq_false_iff_ne]; omega
  clear hP e1
  rw [hgb.out] at hK
  dsimp only at hK
  have EE := tgget_err b (by rw [hgb.out]; exact hK)
  rw [hgb.out] at EE
  obtain ⟨e3, e4⟩ := EE
  dsimp only at e3 e4
  obtain rfl : mb = 0 := by rw [← hmb.out, e3]; rfl
  subst e4
  have j3 : ((kb : Int) != 0) = true := by rw [bne_iff_ne]; omega
  clear e3 hK
  go_enter Try.func4, Try.ntmps4
  go_wp2_with (first
    | (go_at_call 7; (with_reducible refine (speaks21 _).mono ?_); rintro e wn ⟨rfl, hb⟩; replace B := Lib.hid (B.out.trans (hb.mono B.out.size)); (try replace L := Lib.hid (L.out.below hb)); (try replace X := Lib.hid (X.out.on hb)); (try replace X2 := Lib.hid (X2.out.on hb)); (try replace Y := Lib.hid (Y.out.below hb)); (try replace Y2 := Lib.hid (Y2.out.below hb)); (try replace TT := Lib.hid (TT.out.below hb)); (try replace T2 := Lib.hid (T2.out.below hb)); (try replace Z := Lib.hid (Z.out.below hb)); clear hb)
    | (go_at_call 8; (with_reducible refine (tgfew_v a _ HF.out n0 c0 A0 _ _ (HR0.out.below B.out) HL0.out (by omega) HD0.out).mono ?_); rintro e wn ⟨rfl, hb⟩; replace B := Lib.hid (B.out.trans (hb.mono B.out.size)); (try replace L := Lib.hid (L.out.below hb)); (try replace X := Lib.hid (X.out.on hb)); (try replace X2 := Lib.hid (X2.out.on hb)); (try replace Y := Lib.hid (Y.out.below hb)); (try replace Y2 := Lib.hid (Y2.out.below hb)); (try replace TT := Lib.hid (TT.out.below hb)); (try replace T2 := Lib.hid (T2.out.below hb)); (try replace Z := Lib.hid (Z.out.below hb)); clear hb)
    | (go_at_call 10; (with_reducible refine (tgof_v a n0 c0 A0 _ (HR0.out.below B.out) HL0.out (by omega)).mono ?_); rintro e wn ⟨A3, c3, rfl, h3, hb⟩; replace B := Lib.hid (B.out.trans (hb.mono B.out.size)); (try replace L := Lib.hid (L.out.below hb)); (try replace X := Lib.hid (X.out.on hb)); (try replace X2 := Lib.hid (X2.out.on hb)); (try replace Y := Lib.hid (Y.out.below hb)); (try replace Y2 := Lib.hid (Y2.out.below hb)); (try replace TT := Lib.hid (TT.out.below hb)); (try replace T2 := Lib.hid (T2.out.below hb)); (try replace Z := Lib.hid (Z.out.below hb)); have L := Lib.hid h3; clear h3; clear hb)
    | (go_at_call 9; (with_reducible refine (tgput_v a _ he0.out _ EA.out _ (rfl : ([] : List Nat).length = 0) n0 _ _ _ _ L.out HL0.out (by omega) (Nat.le_trans Q2.out (by decide)) HO0.out).mono ?_); rintro e wn ⟨A4, c4, rfl, h4, h4c, hb⟩; replace B := Lib.hid (B.out.trans (hb.mono B.out.size)); (try replace L := Lib.hid (L.out.below hb)); (try replace X := Lib.hid (X.out.on hb)); (try replace X2 := Lib.hid (X2.out.on hb)); (try replace Y := Lib.hid (Y.out.below hb)); (try replace Y2 := Lib.hid (Y2.out.below hb)); (try replace TT := Lib.hid (TT.out.below hb)); (try replace T2 := Lib.hid (T2.out.below hb)); (try replace Z := Lib.hid (Z.out.below hb)); have X := Lib.hid h4; clear h4; clear hb)
    | (go_at_call 12; (with_reducible refine (tgget_v b lb _ _ hgb.out _ hmb.out _ c1 _ _ (HR1.out.on B.out) HB1.out HL1.out (by omega) hc1).mono ?_); rintro e wn ⟨A7, c7, rfl, h7, hb⟩; replace B := Lib.hid (B.out.trans (hb.mono B.out.size)); (try replace L := Lib.hid (L.out.below hb)); (try replace X := Lib.hid (X.out.on hb)); (try replace X2 := Lib.hid (X2.out.on hb)); (try replace Y := Lib.hid (Y.out.below hb)); (try replace Y2 := Lib.hid (Y2.out.below hb)); (try replace TT := Lib.hid (TT.out.below hb)); (try replace T2 := Lib.hid (T2.out.below hb)); (try replace Z := Lib.hid (Z.out.below hb)); have Y2 := Lib.hid h7; clear h7; clear hb))
  go_ret
  exact ⟨rfl, B.out⟩

set_option maxHeartbeats 20000000 in
theorem tgb_bad_get (a : List (Nat × List Nat)) (A0 : Option Addr) (n0 c0 : Nat) (b : List Nat) (A1 : Option Addr) (n1 c1 : Nat) (w : World) (hL0 : a.length = n0) (hn0 : n0 ≤ 140737488351232) (hO0 : ByG a) (hD0 : ∀ x ∈ a, x.2.length ≤ 140737488351232) (hR0 : Rws shG (fun _ => True) w A0 a) (hL1 : b.length = n1) (hc1 : n1 ≤ c1) (hB1 : By b) (hR1 : Rd w w.heap.size A1 b) (hf : tgfew a = true) (h1 : n1 ≤ 1000) (hP : ¬ tgerr a = 0) (hK : (tgget b).2.2 = 0) :
    Calls Try.prog 4 #[.slice A0 n0 c0, .slice A1 n1 c1] w fun e w' => e = .returned (.bool true) ∧ Below w.heap.size w w' := by
  have HR0 := Lib.hid hR0
  have HL0 := Lib.hid hL0
  have HD0 := Lib.hid hD0
  have HO0 := Lib.hid hO0
  clear hR0 hL0 hD0 hO0
  have B := Lib.hid (Below.refl w.heap.size w)
  obtain ⟨q1, q2⟩ := tgfew_of hf
  rw [HL0.out] at q1
  have HF := Lib.hid hf
  have Q2 := Lib.hid q2
  clear hf q2
  have HR1 := Lib.hid hR1
  have HL1 := Lib.hid hL1
  have HB1 := Lib.hid hB1
  clear hR1 hL1 hB1
  have j1 : ¬ (1000 : Int) < (n1 : Int) := by omega
  obtain ⟨lb, nb, kb, hgb⟩ : ∃ l n k, Hid (tgget b = (l, n, k)) := ⟨_, _, _, Lib.hid rfl⟩
  obtain ⟨mb, hmb⟩ : ∃ n, Hid (lb.length = n) := ⟨_, Lib.hid rfl⟩
  have hlen := tgget_len b HB1.out
  rw [hgb.out, HL1.out] at hlen
  dsimp only at hlen
  rw [hmb.out] at hlen
  obtain ⟨slen, snb⟩ := hlen
  have GB := Lib.hid (tgget_byG b HB1.out hgb.out)
  obtain ⟨e0, he0⟩ : ∃ e, Hid (tgerr a = e) := ⟨_, Lib.hid rfl⟩
  have e1 : e0 ≠ 0 := fun h => hP (he0.out.trans h)
  have EA := Lib.hid (tgputA_bad he0.out e1)
  have j2 : ((e0 : Int) == 0) = false := by rw [beq_eq_false_iff_ne]; omega
  clear hP e1
  rw [hgb.out] at hK
  dsimp only at hK
  subst hK
  obtain ⟨g1, g2, -, g4, g5⟩ := tgput_get b HB1.out (by rw [hgb.out])
  rw [hgb.out] at g1 g2 g4 g5
  dsimp only at g1 g2 g4 g5
  obtain ⟨k5, hk5⟩ : ∃ k, Hid ((tgput lb).length = k) := ⟨_, Lib.hid rfl⟩
  rw [hk5.out] at g1 g5
  rw [HL1.out] at g4 g5
  have EB := Lib.hid g2
  have EBA := Lib.hid (tgputA_ok g2)
  have dlb : tgdat lb ≤ 1000 := by
    have e5 := congrArg List.length g1
    rw [hk5.out, List.length_take, HL1.out] at e5
    have e6 := hk5.out
    rw [tgput_len] at e6
    omega
  have DLB := Lib.hid dlb
  have HX5 := Lib.hid g1
  have h5n : k5 ≤ n1 := by rcases g5 with ⟨e7, -⟩ | ⟨e7, -⟩ <;> omega
  have HLX := Lib.hid (show (b.take k5).length = k5 by rw [List.length_take, HL1.out]; omega)
  have j4 : ¬ (n1 : Int) < (nb : Int) := by omega
  have j5 : ¬ (nb : Int) < (k5 : Int) := by rcases g5 with ⟨e7, -⟩ | ⟨e7, -⟩ <;> omega
  have j6 : (0 : Int) ≤ (k5 : Int) := by omega
  have j7 : (k5 : Int) ≤ (c1 : Int) := by omega
  clear g1 g2 dlb
  rcases g5 with ⟨g6, g7⟩ | ⟨g6, g7⟩
  · subst g6
    subst g7
    clear g4
    go_enter Try.func4, Try.ntmps4
    go_wp2_with (first
      | (go_at_call 7; (with_reducible refine (speaks21 _).mono ?_); rintro e wn ⟨rfl, hb⟩; replace B := Lib.hid (B.out.trans (hb.mono B.out.size)); (try replace L := Lib.hid (L.out.below hb)); (try replace X := Lib.hid (X.out.on hb)); (try replace X2 := Lib.hid (X2.out.on hb)); (try replace Y := Lib.hid (Y.out.below hb)); (try replace Y2 := Lib.hid (Y2.out.below hb)); (try replace TT := Lib.hid (TT.out.below hb)); (try replace T2 := Lib.hid (T2.out.below hb)); (try replace Z := Lib.hid (Z.out.below hb)); clear hb)
      | (go_at_call 8; (with_reducible refine (tgfew_v a _ HF.out n0 c0 A0 _ _ (HR0.out.below B.out) HL0.out (by omega) HD0.out).mono ?_); rintro e wn ⟨rfl, hb⟩; replace B := Lib.hid (B.out.trans (hb.mono B.out.size)); (try replace L := Lib.hid (L.out.below hb)); (try replace X := Lib.hid (X.out.on hb)); (try replace X2 := Lib.hid (X2.out.on hb)); (try replace Y := Lib.hid (Y.out.below hb)); (try replace Y2 := Lib.hid (Y2.out.below hb)); (try replace TT := Lib.hid (TT.out.below hb)); (try replace T2 := Lib.hid (T2.out.below hb)); (try replace Z := Lib.hid (Z.out.below hb)); clear hb)
      | (go_at_call 10; (with_reducible refine (tgof_v a n0 c0 A0 _ (HR0.out.below B.out) HL0.out (by omega)).mono ?_); rintro e wn ⟨A3, c3, rfl, h3, hb⟩; replace B := Lib.hid (B.out.trans (hb.mono B.out.size)); (try replace L := Lib.hid (L.out.below hb)); (try replace X := Lib.hid (X.out.on hb)); (try replace X2 := Lib.hid (X2.out.on hb)); (try replace Y := Lib.hid (Y.out.below hb)); (try replace Y2 := Lib.hid (Y2.out.below hb)); (try replace TT := Lib.hid (TT.out.below hb)); (try replace T2 := Lib.hid (T2.out.below hb)); (try replace Z := Lib.hid (Z.out.below hb)); have L := Lib.hid h3; clear h3; clear hb)
      | (go_at_call 9; (with_reducible refine (tgput_v a _ he0.out _ EA.out _ (rfl : ([] : List Nat).length = 0) n0 _ _ _ _ L.out HL0.out (by omega) (Nat.le_trans Q2.out (by decide)) HO0.out).mono ?_); rintro e wn ⟨A4, c4, rfl, h4, h4c, hb⟩; replace B := Lib.hid (B.out.trans (hb.mono B.out.size)); (try replace L := Lib.hid (L.out.below hb)); (try replace X := Lib.hid (X.out.on hb)); (try replace X2 := Lib.hid (X2.out.on hb)); (try replace Y := Lib.hid (Y.out.below hb)); (try replace Y2 := Lib.hid (Y2.out.below hb)); (try replace TT := Lib.hid (TT.out.below hb)); (try replace T2 := Lib.hid (T2.out.below hb)); (try replace Z := Lib.hid (Z.out.below hb)); have X := Lib.hid h4; clear h4; clear hb)
      | (go_at_call 12; (with_reducible refine (tgget_v b lb _ _ hgb.out _ hmb.out _ c1 _ _ (HR1.out.on B.out) HB1.out HL1.out (by omega) hc1).mono ?_); rintro e wn ⟨A7, c7, rfl, h7, hb⟩; replace B := Lib.hid (B.out.trans (hb.mono B.out.size)); (try replace L := Lib.hid (L.out.below hb)); (try replace X := Lib.hid (X.out.on hb)); (try replace X2 := Lib.hid (X2.out.on hb)); (try replace Y := Lib.hid (Y.out.below hb)); (try replace Y2 := Lib.hid (Y2.out.below hb)); (try replace TT := Lib.hid (TT.out.below hb)); (try replace T2 := Lib.hid (T2.out.below hb)); (try replace Z := Lib.hid (Z.out.below hb)); have Y2 := Lib.hid h7; clear h7; clear hb)
      | (go_at_call 9; (with_reducible refine (tgput_v lb _ EB.out _ EBA.out _ hk5.out _ _ _ _ _ Y2.out hmb.out (by omega) (Nat.le_trans DLB.out (by decide)) GB.out).mono ?_); rintro e wn ⟨A8, c8, rfl, h8, h8c, hb⟩; replace B := Lib.hid (B.out.trans (hb.mono B.out.size)); (try replace L := Lib.hid (L.out.below hb)); (try replace X := Lib.hid (X.out.on hb)); (try replace X2 := Lib.hid (X2.out.on hb)); (try replace Y := Lib.hid (Y.out.below hb)); (try replace Y2 := Lib.hid (Y2.out.below hb)); (try replace TT := Lib.hid (TT.out.below hb)); (try replace T2 := Lib.hid (T2.out.below hb)); (try replace Z := Lib.hid (Z.out.below hb)); have X2 := Lib.hid h8; clear h8 h8c; clear hb)
      | (go_at_call 14; (with_reducible refine (equal_yes (tgput lb) _ _ _ _ _ _ _ _ X2.out ((HR1.out.on B.out).take _) hk5.out HLX.out (by omega) HX5.out).mono ?_); rintro e wn ⟨rfl, hb⟩; replace B := Lib.hid (B.out.trans (hb.mono B.out.size)); (try replace L := Lib.hid (L.out.below hb)); (try replace X := Lib.hid (X.out.on hb)); (try replace X2 := Lib.hid (X2.out.on hb)); (try replace Y := Lib.hid (Y.out.below hb)); (try replace Y2 := Lib.hid (Y2.out.below hb)); (try replace TT := Lib.hid (TT.out.below hb)); (try replace T2 := Lib.hid (T2.out.below hb)); (try replace Z := Lib.hid (Z.out.below hb)); clear hb))
    go_ret
    exact ⟨rfl, B.out⟩
  · obtain ⟨bb, oo, x', rfl, -, -, -⟩ := HR1.out.at_ (k := 0) (by rw [HL1.out]; omega)
    have j8 : ((nb : Int) == (k5 : Int)) = false := by rw [beq_eq_false_iff_ne]; omega
    have j9 : (k5 : Int) + 4 = (nb : Int) := by omega
    have j10 : IntKind.i64.wrap (nb : Int) = (nb : Int) := IntWalk.i64_in _ (by omega)
    have j11 : (k5 : Int) ≤ (nb : Int) := by omega
    have j12 : (nb : Int) ≤ (c1 : Int) := by omega
    have j13 : ¬ c1 = k5 := by omega
    have j14 : nb - k5 = 4 := by omega
    have X3 := Lib.hid (show Rd w w.heap.size (some ⟨bb, oo + k5, none⟩) [0, 0, 0, 0] by
      have e8 := (HR1.out.take nb).cutG (f := k5) (c := c1) (by rw [List.length_take, HL1.out]; omega)
      rw [if_neg j13, g7] at e8
      exact e8)
    have HLT := Lib.hid (show ∀ W : World, Rd (W.alloc (.cells #[.int .u8 0, .int .u8 0, .int .u8 0, .int .u8 0] 5)) (W.alloc (.cells #[.int .u8 0, .int .u8 0, .int .u8 0, .int .u8 0] 5)).heap.size (some ⟨W.heap.size, 0, none⟩) [0, 0, 0, 0] from fun W => Rd.lit_ W [0, 0, 0, 0])
    clear g4 g6 g7
    go_enter Try.func4, Try.ntmps4
    go_wp2_with (first
      | (go_at_call 7; (with_reducible refine (speaks21 _).mono ?_); rintro e wn ⟨rfl, hb⟩; replace B := Lib.hid (B.out.trans (hb.mono B.out.size)); (try replace L := Lib.hid (L.out.below hb)); (try replace X := Lib.hid (X.out.on hb)); (try replace X2 := Lib.hid (X2.out.on hb)); (try replace Y := Lib.hid (Y.out.below hb)); (try replace Y2 := Lib.hid (Y2.out.below hb)); (try replace TT := Lib.hid (TT.out.below hb)); (try replace T2 := Lib.hid (T2.out.below hb)); (try replace Z := Lib.hid (Z.out.below hb)); clear hb)
      | (go_at_call 8; (with_reducible refine (tgfew_v a _ HF.out n0 c0 A0 _ _ (HR0.out.below B.out) HL0.out (by omega) HD0.out).mono ?_); rintro e wn ⟨rfl, hb⟩; replace B := Lib.hid (B.out.trans (hb.mono B.out.size)); (try replace L := Lib.hid (L.out.below hb)); (try replace X := Lib.hid (X.out.on hb)); (try replace X2 := Lib.hid (X2.out.on hb)); (try replace Y := Lib.hid (Y.out.below hb)); (try replace Y2 := Lib.hid (Y2.out.below hb)); (try replace TT := Lib.hid (TT.out.below hb)); (try replace T2 := Lib.hid (T2.out.below hb)); (try replace Z := Lib.hid (Z.out.below hb)); clear hb)
      | (go_at_call 10; (with_reducible refine (tgof_v a n0 c0 A0 _ (HR0.out.below B.out) HL0.out (by omega)).mono ?_); rintro e wn ⟨A3, c3, rfl, h3, hb⟩; replace B := Lib.hid (B.out.trans (hb.mono B.out.size)); (try replace L := Lib.hid (L.out.below hb)); (try replace X := Lib.hid (X.out.on hb)); (try replace X2 := Lib.hid (X2.out.on hb)); (try replace Y := Lib.hid (Y.out.below hb)); (try replace Y2 := Lib.hid (Y2.out.below hb)); (try replace TT := Lib.hid (TT.out.below hb)); (try replace T2 := Lib.hid (T2.out.below hb)); (try replace Z := Lib.hid (Z.out.below hb)); have L := Lib.hid h3; clear h3; clear hb)
      | (go_at_call 9; (with_reducible refine (tgput_v a _ he0.out _ EA.out _ (rfl : ([] : List Nat).length = 0) n0 _ _ _ _ L.out HL0.out (by omega) (Nat.le_trans Q2.out (by decide)) HO0.out).mono ?_); rintro e wn ⟨A4, c4, rfl, h4, h4c, hb⟩; replace B := Lib.hid (B.out.trans (hb.mono B.out.size)); (try replace L := Lib.hid (L.out.below hb)); (try replace X := Lib.hid (X.out.on hb)); (try replace X2 := Lib.hid (X2.out.on hb)); (try replace Y := Lib.hid (Y.out.below hb)); (try replace Y2 := Lib.hid (Y2.out.below hb)); (try replace TT := Lib.hid (TT.out.below hb)); (try replace T2 := Lib.hid (T2.out.below hb)); (try replace Z := Lib.hid (Z.out.below hb)); have X := Lib.hid h4; clear h4; clear hb)
      | (go_at_call 12; (with_reducible refine (tgget_v b lb _ _ hgb.out _ hmb.out _ c1 _ _ (HR1.out.on B.out) HB1.out HL1.out (by omega) hc1).mono ?_); rintro e wn ⟨A7, c7, rfl, h7, hb⟩; replace B := Lib.hid (B.out.trans (hb.mono B.out.size)); (try replace L := Lib.hid (L.out.below hb)); (try replace X := Lib.hid (X.out.on hb)); (try replace X2 := Lib.hid (X2.out.on hb)); (try replace Y := Lib.hid (Y.out.below hb)); (try replace Y2 := Lib.hid (Y2.out.below hb)); (try replace TT := Lib.hid (TT.out.below hb)); (try replace T2 := Lib.hid (T2.out.below hb)); (try replace Z := Lib.hid (Z.out.below hb)); have Y2 := Lib.hid h7; clear h7; clear hb)
      | (go_at_call 9; (with_reducible refine (tgput_v lb _ EB.out _ EBA.out _ hk5.out _ _ _ _ _ Y2.out hmb.out (by omega) (Nat.le_trans DLB.out (by decide)) GB.out).mono ?_); rintro e wn ⟨A8, c8, rfl, h8, h8c, hb⟩; replace B := Lib.hid (B.out.trans (hb.mono B.out.size)); (try replace L := Lib.hid (L.out.below hb)); (try replace X := Lib.hid (X.out.on hb)); (try replace X2 := Lib.hid (X2.out.on hb)); (try replace Y := Lib.hid (Y.out.below hb)); (try replace Y2 := Lib.hid (Y2.out.below hb)); (try replace TT := Lib.hid (TT.out.below hb)); (try replace T2 := Lib.hid (T2.out.below hb)); (try replace Z := Lib.hid (Z.out.below hb)); have X2 := Lib.hid h8; clear h8 h8c; clear hb)
      | (go_at_call 14; (with_reducible refine (equal_yes (tgput lb) _ _ _ _ _ _ _ _ X2.out ((HR1.out.on B.out).take _) hk5.out HLX.out (by omega) HX5.out).mono ?_); rintro e wn ⟨rfl, hb⟩; replace B := Lib.hid (B.out.trans (hb.mono B.out.size)); (try replace L := Lib.hid (L.out.below hb)); (try replace X := Lib.hid (X.out.on hb)); (try replace X2 := Lib.hid (X2.out.on hb)); (try replace Y := Lib.hid (Y.out.below hb)); (try replace Y2 := Lib.hid (Y2.out.below hb)); (try replace TT := Lib.hid (TT.out.below hb)); (try replace T2 := Lib.hid (T2.out.below hb)); (try replace Z := Lib.hid (Z.out.below hb)); clear hb)
      | (go_at_call 14; (with_reducible refine (equal_yes [0, 0, 0, 0] [0, 0, 0, 0] 4 4 _ _ _ _ _ (X3.out.on (B.out.trans (((Below.refl _ _).alloc (Nat.le_refl _) _).mono B.out.size))) (HLT.out _) rfl rfl (by omega) rfl).mono ?_); rintro e wn ⟨rfl, hb⟩; replace B := Lib.hid ((B.out.alloc B.out.size _).trans (hb.mono (B.out.alloc B.out.size _).size)); (try replace L := Lib.hid (L.out.below hb)); (try replace X := Lib.hid (X.out.on hb)); (try replace X2 := Lib.hid (X2.out.on hb)); (try replace Y := Lib.hid (Y.out.below hb)); (try replace Y2 := Lib.hid (Y2.out.below hb)); (try replace TT := Lib.hid (TT.out.below hb)); (try replace T2 := Lib.hid (T2.out.below hb)); (try replace Z := Lib.hid (Z.out.below hb)); clear hb))
    go_ret
    exact ⟨rfl, B.out⟩

theorem tgb_walk (a : List (Nat × List Nat)) (A0 : Option Addr) (n0 c0 : Nat) (b : List Nat) (A1 : Option Addr) (n1 c1 : Nat) (w : World) (hL0 : a.length = n0) (hn0 : n0 ≤ 140737488351232) (hO0 : ByG a) (hD0 : ∀ x ∈ a, x.2.length ≤ 140737488351232) (hR0 : Rws shG (fun _ => True) w A0 a) (hL1 : b.length = n1) (hc1 : n1 ≤ c1) (hB1 : By b) (hR1 : Rd w w.heap.size A1 b) (hf : tgfew a = true) (h1 : n1 ≤ 1000) :
    Calls Try.prog 4 #[.slice A0 n0 c0, .slice A1 n1 c1] w fun e w' => e = .returned (.bool true) ∧ Below w.heap.size w w' := by
  by_cases hP : tgerr a = 0
  · by_cases hK : (tgget b).2.2 = 0
    · exact tgb_ok_get a A0 n0 c0 b A1 n1 c1 w hL0 hn0 hO0 hD0 hR0 hL1 hc1 hB1 hR1 hf h1 hP hK
    · exact tgb_ok_err a A0 n0 c0 b A1 n1 c1 w hL0 hn0 hO0 hD0 hR0 hL1 hc1 hB1 hR1 hf h1 hP hK
  · by_cases hK : (tgget b).2.2 = 0
    · exact tgb_bad_get a A0 n0 c0 b A1 n1 c1 w hL0 hn0 hO0 hD0 hR0 hL1 hc1 hB1 hR1 hf h1 hP hK
    · exact tgb_bad_err a A0 n0 c0 b A1 n1 c1 w hL0 hn0 hO0 hD0 hR0 hL1 hc1 hB1 hR1 hf h1 hP hK
end Go.Proofs.Ytldadfmcganejaa
