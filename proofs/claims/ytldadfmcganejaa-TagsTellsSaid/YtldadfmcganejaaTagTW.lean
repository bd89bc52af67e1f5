
/-
  TagsTells' walk. No condition.
-/
import Derived.Test.YtldadfmcganejaaTagV
import Derived.Test.YtldadfmcganejaaTagR
import Derived.Test.YtldadfmcganejaaTagN
namespace Go.Proofs.Ytldadfmcganejaa
set_option maxRecDepth 4000
open Go.RowKit

set_option maxHeartbeats 4000000 in
theorem tgt_early (a : List (Nat × List Nat)) (A0 : Option Addr) (n0 c0 : Nat) (A1 : Option Addr) (n1 c1 t : Nat) (w : World) (hL0 : a.length = n0) (hn0 : n0 ≤ 140737488351232) (hO0 : ByG a) (hD0 : ∀ x ∈ a, x.2.length ≤ 140737488351232) (hR0 : Rws shG (fun _ => True) w A0 a) (h : ¬ (tgfew a = true ∧ n1 ≤ 1000)) :
    Calls Try.prog 3 #[.slice A0 n0 c0, .slice A1 n1 c1, .int .u16 (t : Int)] w fun e w' => e = .returned (.bool true) ∧ Below w.heap.size w w' := by
  have HR0 := Lib.hid hR0
  have HL0 := Lib.hid hL0
  have HD0 := Lib.hid hD0
  have HO0 := Lib.hid hO0
  clear hR0 hL0 hD0 hO0
  have B := Lib.hid (Below.refl w.heap.size w)
  by_cases hf : tgfew a = true
  · have HF := Lib.hid hf
    have j1 : (1000 : Int) < (n1 : Int) := by
      have : ¬ n1 ≤ 1000 := fun h3 => h ⟨hf, h3⟩
      omega
    clear hf h
    go_enter Try.func3, Try.ntmps3
    go_wp2_with (first
      | (go_at_call 7; (with_reducible refine (speaks21 _).mono ?_); rintro e wn ⟨rfl, hb⟩; replace B := Lib.hid (B.out.trans (hb.mono B.out.size)); (try replace L := Lib.hid (L.out.below hb)); (try replace X := Lib.hid (X.out.on hb)); (try replace X2 := Lib.hid (X2.out.on hb)); (try replace Y := Lib.hid (Y.out.below hb)); (try replace Y2 := Lib.hid (Y2.out.below hb)); (try replace TT := Lib.hid (TT.out.below hb)); (try replace T2 := Lib.hid (T2.out.below hb)); (try replace Z := Lib.hid (Z.out.below hb)); clear hb)
      | (go_at_call 8; (with_reducible refine (tgfew_v a _ HF.out n0 c0 A0 _ _ (HR0.out.below B.out) HL0.out (by omega) HD0.out).mono ?_); rintro e wn ⟨rfl, hb⟩; replace B := Lib.hid (B.out.trans (hb.mono B.out.size)); (try replace L := Lib.hid (L.out.below hb)); (try replace X := Lib.hid (X.out.on hb)); (try replace X2 := Lib.hid (X2.out.on hb)); (try replace Y := Lib.hid (Y.out.below hb)); (try replace Y2 := Lib.hid (Y2.out.below hb)); (try replace TT := Lib.hid (TT.out.below hb)); (try replace T2 := Lib.hid (T2.out.below hb)); (try replace Z := Lib.hid (Z.out.below hb)); clear hb))
    go_ret
    exact ⟨rfl, B.out⟩
  · have HF := Lib.hid (Bool.eq_false_iff.2 hf)
    clear hf h
    go_enter Try.func3, Try.ntmps3
    go_wp2_with (first
      | (go_at_call 7; (with_reducible refine (speaks21 _).mono ?_); rintro e wn ⟨rfl, hb⟩; replace B := Lib.hid (B.out.trans (hb.mono B.out.size)); (try replace L := Lib.hid (L.out.below hb)); (try replace X := Lib.hid (X.out.on hb)); (try replace X2 := Lib.hid (X2.out.on hb)); (try replace Y := Lib.hid (Y.out.below hb)); (try replace Y2 := Lib.hid (Y2.out.below hb)); (try replace TT := Lib.hid (TT.out.below hb)); (try replace T2 := Lib.hid (T2.out.below hb)); (try replace Z := Lib.hid (Z.out.below hb)); clear hb)
      | (go_at_call 8; (with_reducible refine (tgfew_v a _ HF.out n0 c0 A0 _ _ (HR0.out.below B.out) HL0.out (by omega) HD0.out).mono ?_); rintro e wn ⟨rfl, hb⟩; replace B := Lib.hid (B.out.trans (hb.mono B.out.size)); (try replace L := Lib.hid (L.out.below hb)); (try replace X := Lib.hid (X.out.on hb)); (try replace X2 := Lib.hid (X2.out.on hb)); (try replace Y := Lib.hid (Y.out.below hb)); (try replace Y2 := Lib.hid (Y2.out.below hb)); (try replace TT := Lib.hid (TT.out.below hb)); (try replace T2 := Lib.hid (T2.out.below hb)); (try replace Z := Lib.hid (Z.out.below hb)); clear hb))
    go_ret
    exact ⟨rfl, B.out⟩

set_option maxHeartbeats 20000000 in
theorem tgt_walk (a : List (Nat × List Nat)) (A0 : Option Addr) (n0 c0 : Nat) (b : List Nat) (A1 : Option Addr) (n1 c1 t : Nat) (w : World) (hL0 : a.length = n0) (hn0 : n0 ≤ 140737488351232) (hO0 : ByG a) (hD0 : ∀ x ∈ a, x.2.length ≤ 140737488351232) (hR0 : Rws shG (fun _ => True) w A0 a) (hL1 : b.length = n1) (hc1 : n1 ≤ c1) (hB1 : By b) (hR1 : Rd w w.heap.size A1 b) (ht : t < 65536) (hf : tgfew a = true) (h1 : n1 ≤ 1000) :
    Calls Try.prog 3 #[.slice A0 n0 c0, .slice A1 n1 c1, .int .u16 (t : Int)] w fun e w' => e = .returned (.bool true) ∧ Below w.heap.size w w' := by
  have HR0 := Lib.hid hR0
  have HL0 := Lib.hid hL0
  have HD0 := Lib.hid hD0
  have HO0 := Lib.hid hO0
  clear hR0 hL0 hD0 hO0
  have B := Lib.hid (Below.refl w.heap.size w)
  obtain ⟨q1, q2⟩ := tgfew_of hf
  rw [HL0.out] at q1
  have HF := Lib.hid hf
  have Q2 := Lib.hid q2
  clear hf q2
  have HR1 := Lib.hid hR1
  have HL1 := Lib.hid hL1
  have HB1 := Lib.hid hB1
  clear hR1 hL1 hB1
  have j1 : ¬ (1000 : Int) < (n1 : Int) := by omega
  obtain ⟨e0, m0, k0, he0, hm0, hk0, hkl0⟩ : ∃ e0 m0 k0, Hid (tgerr a = e0) ∧ Hid (tgputA a = m0) ∧ Hid (m0.length = k0) ∧ k0 ≤ 1240 := ⟨_, _, _, Lib.hid rfl, Lib.hid rfl, Lib.hid rfl, tgputA_le a 60 1000 (by rw [HL0.out]; exact q1) Q2.out⟩
  obtain ⟨lb, nb, kb, hgb⟩ : ∃ l n k, Hid (tgget b = (l, n, k)) := ⟨_, _, _, Lib.hid rfl⟩
  obtain ⟨mb, hmb⟩ : ∃ n, Hid (lb.length = n) := ⟨_, Lib.hid rfl⟩
  have hlen := tgget_len b HB1.out
  rw [hgb.out, HL1.out] at hlen
  dsimp only at hlen
  rw [hmb.out] at hlen
  obtain ⟨slen, snb⟩ := hlen
  have GB := Lib.hid (tgget_byG b HB1.out hgb.out)
  obtain ⟨tx, htx⟩ : ∃ s, Hid (tgname t = s) := ⟨_, Lib.hid rfl⟩
  have RN := Lib.hid (fun w => htx.out ▸ tgrname_any t w : ∀ w : World, Calls Try.prog 18 #[.int .i64 (t : Int)] w fun e w' => e = .returned (.string tx) ∧ Below w.heap.size w w')
  have t1 : IntKind.i64.wrap (t : Int) = (t : Int) := IntWalk.i64_in _ (by omega)
  have t2 : wrap64 (t : Int) = (t : Int) := IntWalk.wrap64_in _ (by omega)
  go_enter Try.func3, Try.ntmps3
  go_wp2_with (first
    | (go_at_call 7; (with_reducible refine (speaks21 _).mono ?_); rintro e wn ⟨rfl, hb⟩; replace B := Lib.hid (B.out.trans (hb.mono B.out.size)); (try replace L := Lib.hid (L.out.below hb)); (try replace X := Lib.hid (X.out.on hb)); (try replace X2 := Lib.hid (X2.out.on hb)); (try replace Y := Lib.hid (Y.out.below hb)); (try replace Y2 := Lib.hid (Y2.out.below hb)); (try replace TT := Lib.hid (TT.out.below hb)); (try replace T2 := Lib.hid (T2.out.below hb)); (try replace Z := Lib.hid (Z.out.below hb)); clear hb)
    | (go_at_call 8; (with_reducible refine (tgfew_v a _ HF.out n0 c0 A0 _ _ (HR0.out.below B.out) HL0.out (by omega) HD0.out).mono ?_); rintro e wn ⟨rfl, hb⟩; replace B := Lib.hid (B.out.trans (hb.mono B.out.size)); (try replace L := Lib.hid (L.out.below hb)); (try replace X := Lib.hid (X.out.on hb)); (try replace X2 := Lib.hid (X2.out.on hb)); (try replace Y := Lib.hid (Y.out.below hb)); (try replace Y2 := Lib.hid (Y2.out.below hb)); (try replace TT := Lib.hid (TT.out.below hb)); (try replace T2 := Lib.hid (T2.out.below hb)); (try replace Z := Lib.hid (Z.out.below hb)); clear hb)
    | (go_at_call 10; (with_reducible refine (tgof_v a n0 c0 A0 _ (HR0.out.below B.out) HL0.out (by omega)).mono ?_); rintro e wn ⟨A3, c3, rfl, h3, hb⟩; replace B := Lib.hid (B.out.trans (hb.mono B.out.size)); (try replace L := Lib.hid (L.out.below hb)); (try replace X := Lib.hid (X.out.on hb)); (try replace X2 := Lib.hid (X2.out.on hb)); (try replace Y := Lib.hid (Y.out.below hb)); (try replace Y2 := Lib.hid (Y2.out.below hb)); (try replace TT := Lib.hid (TT.out.below hb)); (try replace T2 := Lib.hid (T2.out.below hb)); (try replace Z := Lib.hid (Z.out.below hb)); have L := Lib.hid h3; clear h3; clear hb)
    | (go_at_call 9; (with_reducible refine (tgput_v a _ he0.out _ hm0.out _ hk0.out n0 _ _ _ _ L.out HL0.out (by omega) (Nat.le_trans Q2.out (by decide)) HO0.out).mono ?_); rintro e wn ⟨A4, c4, rfl, h4, h4c, hb⟩; replace B := Lib.hid (B.out.trans (hb.mono B.out.size)); (try replace L := Lib.hid (L.out.below hb)); (try replace X := Lib.hid (X.out.on hb)); (try replace X2 := Lib.hid (X2.out.on hb)); (try replace Y := Lib.hid (Y.out.below hb)); (try replace Y2 := Lib.hid (Y2.out.below hb)); (try replace TT := Lib.hid (TT.out.below hb)); (try replace T2 := Lib.hid (T2.out.below hb)); (try replace Z := Lib.hid (Z.out.below hb)); have X := Lib.hid h4; clear h4; clear hb)
    | (go_at_call 11; (with_reducible refine (tgrput_v a _ he0.out _ hm0.out _ hk0.out n0 _ _ _ _ (HR0.out.below B.out) HL0.out (by omega) (Nat.le_trans Q2.out (by decide)) HO0.out).mono ?_); rintro e wn ⟨A6, c6, rfl, h6, h6c, hb⟩; replace B := Lib.hid (B.out.trans (hb.mono B.out.size)); (try replace L := Lib.hid (L.out.below hb)); (try replace X := Lib.hid (X.out.on hb)); (try replace X2 := Lib.hid (X2.out.on hb)); (try replace Y := Lib.hid (Y.out.below hb)); (try replace Y2 := Lib.hid (Y2.out.below hb)); (try replace TT := Lib.hid (TT.out.below hb)); (try replace T2 := Lib.hid (T2.out.below hb)); (try replace Z := Lib.hid (Z.out.below hb)); have X2 := Lib.hid h6; clear h6 h6c; clear hb)
    | (go_at_call 12; (with_reducible refine (tgget_v b lb _ _ hgb.out mb hmb.out n1 c1 A1 _ (HR1.out.on B.out) HB1.out HL1.out (by omega) hc1).mono ?_); rintro e wn ⟨A7, c7, rfl, h7, hb⟩; replace B := Lib.hid (B.out.trans (hb.mono B.out.size)); (try replace L := Lib.hid (L.out.below hb)); (try replace X := Lib.hid (X.out.on hb)); (try replace X2 := Lib.hid (X2.out.on hb)); (try replace Y := Lib.hid (Y.out.below hb)); (try replace Y2 := Lib.hid (Y2.out.below hb)); (try replace TT := Lib.hid (TT.out.below hb)); (try replace T2 := Lib.hid (T2.out.below hb)); (try replace Z := Lib.hid (Z.out.below hb)); have Y := Lib.hid h7; clear h7; clear hb)
    | (go_at_call 13; (with_reducible refine (tgrget_v b lb _ _ hgb.out mb hmb.out n1 c1 A1 _ (HR1.out.on B.out) HB1.out HL1.out (by omega) hc1).mono ?_); rintro e wn ⟨A8, c8, rfl, h8, hb⟩; replace B := Lib.hid (B.out.trans (hb.mono B.out.size)); (try replace L := Lib.hid (L.out.below hb)); (try replace X := Lib.hid (X.out.on hb)); (try replace X2 := Lib.hid (X2.out.on hb)); (try replace Y := Lib.hid (Y.out.below hb)); (try replace Y2 := Lib.hid (Y2.out.below hb)); (try replace TT := Lib.hid (TT.out.below hb)); (try replace T2 := Lib.hid (T2.out.below hb)); (try replace Z := Lib.hid (Z.out.below hb)); have Y2 := Lib.hid h8; clear h8; clear hb)
    | (go_at_call 14; (with_reducible refine (equal_yes m0 m0 k0 k0 _ _ _ _ _ X.out X2.out hk0.out hk0.out (by omega) rfl).mono ?_); rintro e wn ⟨rfl, hb⟩; replace B := Lib.hid (B.out.trans (hb.mono B.out.size)); (try replace L := Lib.hid (L.out.below hb)); (try replace X := Lib.hid (X.out.on hb)); (try replace X2 := Lib.hid (X2.out.on hb)); (try replace Y := Lib.hid (Y.out.below hb)); (try replace Y2 := Lib.hid (Y2.out.below hb)); (try replace TT := Lib.hid (TT.out.below hb)); (try replace T2 := Lib.hid (T2.out.below hb)); (try replace Z := Lib.hid (Z.out.below hb)); clear hb)
    | (go_at_call 16; (with_reducible refine (tgto_v lb mb _ _ _ Y.out hmb.out (by omega)).mono ?_); rintro e wn ⟨A9, c9, rfl, h9, hb⟩; replace B := Lib.hid (B.out.trans (hb.mono B.out.size)); (try replace L := Lib.hid (L.out.below hb)); (try replace X := Lib.hid (X.out.on hb)); (try replace X2 := Lib.hid (X2.out.on hb)); (try replace Y := Lib.hid (Y.out.below hb)); (try replace Y2 := Lib.hid (Y2.out.below hb)); (try replace TT := Lib.hid (TT.out.below hb)); (try replace T2 := Lib.hid (T2.out.below hb)); (try replace Z := Lib.hid (Z.out.below hb)); have TT := Lib.hid h9; clear h9; clear hb)
    | (go_at_call 15; (with_reducible refine (tgsame_v lb lb _ (decide_eq_true rfl) mb mb _ _ _ _ _ _ _ TT.out Y2.out GB.out GB.out hmb.out hmb.out (by omega)).mono ?_); rintro e wn ⟨rfl, hb⟩; replace B := Lib.hid (B.out.trans (hb.mono B.out.size)); (try replace L := Lib.hid (L.out.below hb)); (try replace X := Lib.hid (X.out.on hb)); (try replace X2 := Lib.hid (X2.out.on hb)); (try replace Y := Lib.hid (Y.out.below hb)); (try replace Y2 := Lib.hid (Y2.out.below hb)); (try replace TT := Lib.hid (TT.out.below hb)); (try replace T2 := Lib.hid (T2.out.below hb)); (try replace Z := Lib.hid (Z.out.below hb)); clear hb)
    | (go_at_call 17; (with_reducible refine (tgname_any t ht _ tx htx.out).mono ?_); rintro e wn ⟨rfl, hb⟩; replace B := Lib.hid (B.out.trans (hb.mono B.out.size)); (try replace L := Lib.hid (L.out.below hb)); (try replace X := Lib.hid (X.out.on hb)); (try replace X2 := Lib.hid (X2.out.on hb)); (try replace Y := Lib.hid (Y.out.below hb)); (try replace Y2 := Lib.hid (Y2.out.below hb)); (try replace TT := Lib.hid (TT.out.below hb)); (try replace T2 := Lib.hid (T2.out.below hb)); (try replace Z := Lib.hid (Z.out.below hb)); clear hb)
    | (go_at_call 18; (with_reducible refine (RN.out _).mono ?_); rintro e wn ⟨rfl, hb⟩; replace B := Lib.hid (B.out.trans (hb.mono B.out.size)); (try replace L := Lib.hid (L.out.below hb)); (try replace X := Lib.hid (X.out.on hb)); (try replace X2 := Lib.hid (X2.out.on hb)); (try replace Y := Lib.hid (Y.out.below hb)); (try replace Y2 := Lib.hid (Y2.out.below hb)); (try replace TT := Lib.hid (TT.out.below hb)); (try replace T2 := Lib.hid (T2.out.below hb)); (try replace Z := Lib.hid (Z.out.below hb)); clear hb))
  go_ret
  exact ⟨rfl, B.out⟩
end Go.Proofs.Ytldadfmcganejaa
