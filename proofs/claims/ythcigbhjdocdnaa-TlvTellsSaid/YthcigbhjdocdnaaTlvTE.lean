
/-
  TlvTells' walk where the inputs are too many. No condition.
-/
import Derived.Test.YthcigbhjdocdnaaTlvV
namespace Go.Proofs.Ythcigbhjdocdnaa
open Go.RowKit

set_option maxHeartbeats 4000000 in
theorem tells_early (a : List (Nat × List Nat)) (A0 : Option Addr) (n0 c0 : Nat) (c : List (Nat × List Nat)) (A1 : Option Addr) (n1 c1 : Nat) (A2 : Option Addr) (n2 c2 : Nat) (t : Nat) (w : World) (hL0 : a.length = n0) (hn0 : n0 ≤ 140737488351232) (hO0 : ByO a) (hD0 : ∀ x ∈ a, x.2.length ≤ 140737488351232) (hR0 : Rws shO (fun _ => True) w A0 a) (hL1 : c.length = n1) (hn1 : n1 ≤ 140737488351232) (hO1 : ByO c) (hD1 : ∀ x ∈ c, x.2.length ≤ 140737488351232) (hR1 : Rws shO (fun _ => True) w A1 c) (h : ¬ (fewB a = true ∧ fewB c = true ∧ n2 ≤ 1000)) :
    Calls Try.prog 3 #[.slice A0 n0 c0, .slice A1 n1 c1, .slice A2 n2 c2, .int .u8 (t : Int)] w fun e w' => e = .returned (.bool true) ∧ Below w.heap.size w w' := by
  have HR0 := Lib.hid hR0
  have HL0 := Lib.hid hL0
  have HD0 := Lib.hid hD0
  have HO0 := Lib.hid hO0
  clear hR0 hL0 hD0 hO0
  have HR1 := Lib.hid hR1
  have HL1 := Lib.hid hL1
  have HD1 := Lib.hid hD1
  have HO1 := Lib.hid hO1
  clear hR1 hL1 hD1 hO1
  have B := Lib.hid (Below.refl w.heap.size w)
  by_cases hf : ¬ fewB a = true
  · have HF := Lib.hid (Bool.eq_false_iff.2 hf)
    clear hf h
    go_enter Try.func3, Try.ntmps3
    go_wp2_with (first
      | (go_at_call 7; (with_reducible refine (speaks12 _).mono ?_); rintro e wn ⟨rfl, hb⟩; replace B := Lib.hid (B.out.trans (hb.mono B.out.size)); clear hb)
      | (go_at_call 8; (with_reducible refine (few_v a _ HF.out n0 c0 A0 _ _ (HR0.out.below B.out) HL0.out (by omega) HD0.out).mono ?_); rintro e wn ⟨rfl, hb⟩; replace B := Lib.hid (B.out.trans (hb.mono B.out.size)); clear hb)
      | (go_at_call 8; (with_reducible refine (few_v c _ HG.out n1 c1 A1 _ _ (HR1.out.below B.out) HL1.out (by omega) HD1.out).mono ?_); rintro e wn ⟨rfl, hb⟩; replace B := Lib.hid (B.out.trans (hb.mono B.out.size)); clear hb))
    go_ret
    exact ⟨rfl, B.out⟩
  replace hf := Decidable.not_not.1 hf
  by_cases hg : ¬ fewB c = true
  · have HF := Lib.hid hf
    have HG := Lib.hid (Bool.eq_false_iff.2 hg)
    clear hf hg h
    go_enter Try.func3, Try.ntmps3
    go_wp2_with (first
      | (go_at_call 7; (with_reducible refine (speaks12 _).mono ?_); rintro e wn ⟨rfl, hb⟩; replace B := Lib.hid (B.out.trans (hb.mono B.out.size)); clear hb)
      | (go_at_call 8; (with_reducible refine (few_v a _ HF.out n0 c0 A0 _ _ (HR0.out.below B.out) HL0.out (by omega) HD0.out).mono ?_); rintro e wn ⟨rfl, hb⟩; replace B := Lib.hid (B.out.trans (hb.mono B.out.size)); clear hb)
      | (go_at_call 8; (with_reducible refine (few_v c _ HG.out n1 c1 A1 _ _ (HR1.out.below B.out) HL1.out (by omega) HD1.out).mono ?_); rintro e wn ⟨rfl, hb⟩; replace B := Lib.hid (B.out.trans (hb.mono B.out.size)); clear hb))
    go_ret
    exact ⟨rfl, B.out⟩
  replace hg := Decidable.not_not.1 hg
  · have HF := Lib.hid hf
    have HG := Lib.hid hg
    have j1 : (1000 : Int) < (n2 : Int) := by
      have : ¬ n2 ≤ 1000 := fun h3 => h ⟨hf, hg, h3⟩
      omega
    clear hf hg h
    go_enter Try.func3, Try.ntmps3
    go_wp2_with (first
      | (go_at_call 7; (with_reducible refine (speaks12 _).mono ?_); rintro e wn ⟨rfl, hb⟩; replace B := Lib.hid (B.out.trans (hb.mono B.out.size)); clear hb)
      | (go_at_call 8; (with_reducible refine (few_v a _ HF.out n0 c0 A0 _ _ (HR0.out.below B.out) HL0.out (by omega) HD0.out).mono ?_); rintro e wn ⟨rfl, hb⟩; replace B := Lib.hid (B.out.trans (hb.mono B.out.size)); clear hb)
      | (go_at_call 8; (with_reducible refine (few_v c _ HG.out n1 c1 A1 _ _ (HR1.out.below B.out) HL1.out (by omega) HD1.out).mono ?_); rintro e wn ⟨rfl, hb⟩; replace B := Lib.hid (B.out.trans (hb.mono B.out.size)); clear hb))
    go_ret
    exact ⟨rfl, B.out⟩
end Go.Proofs.Ythcigbhjdocdnaa
