
/-
  OptsNums' walk. No condition.
-/
import Derived.Test.YtmilbkhkefbjkaaOpsW
namespace Go.Proofs.Ytmilbkhkefbjkaa
open Go.RowKit

theorem nums_pow (k : Nat) (hk : k < 8) : (256 : Nat) ^ k < 18446744073709551616 ∧ 0 < (256 : Nat) ^ k := by
  have h1 : (256 : Nat) ^ k ≤ 256 ^ 7 := Nat.pow_le_pow_right (by omega) (by omega)
  have h2 : (256 : Nat) ^ 7 < 18446744073709551616 := by decide
  exact ⟨by omega, Nat.pow_pos (by omega)⟩

theorem num_eight (t v : Nat) (w : World) : Calls Try.prog 26 #[.int .u8 (t : Int), .int .u64 (v : Int), .int .i64 8] w fun e w' => ∃ A c, e = .returned (.agg #[.int .u8 (t : Int), .slice A 8 c]) ∧ w'.ownsRow w.heap.size 5 1 (.slice A 8 c) 8 (bvs (numB v 8)) ∧ Below w.heap.size w w' := num_any t v 8 (by omega) w

set_option maxHeartbeats 4000000 in
theorem nums_walk (t v s : Nat) (hv : v < 18446744073709551616) (hs : s < 256) (w : World) :
    Calls Try.prog 5 #[.int .u8 (t : Int), .int .u64 (v : Int), .int .u8 (s : Int)] w fun e w' => e = .returned (.bool true) ∧ Below w.heap.size w w' := by
  obtain ⟨k, hk⟩ : ∃ k, k = s % 9 := ⟨_, rfl⟩
  have hk9 : k ≤ 8 := by omega
  have e0 : (s : Int) % 9 = (k : Int) := by omega
  have HE := Lib.hid e0
  clear hk
  have B := Lib.hid (Below.refl w.heap.size w)
  by_cases h8 : k < 8
  · have j1 : (k : Int) < 8 := by omega
    obtain ⟨q, hq⟩ : ∃ q, q = v % 256 ^ k := ⟨_, rfl⟩
    have HV := Lib.hid (show valB (numB v k) = q by rw [hq, num_valB v k hk9])
    have e3 : ¬ IntKind.u64.wrap (2 ^ (8 * k)) = 0 := by
      have h := nums_pow k h8
      have e2 : (2 : Int) ^ (8 * k) = ((256 ^ k : Nat) : Int) := by rw [show (256 : Nat) ^ k = 2 ^ (8 * k) by rw [Nat.pow_mul], Int.natCast_pow]; rfl
      rw [e2, IntKind.wrap_u64]
      omega
    have e1 : (v : Int) % IntKind.u64.wrap (2 ^ (8 * k)) = (q : Int) := by
      have h := nums_pow k h8
      have e2 : (2 : Int) ^ (8 * k) = ((256 ^ k : Nat) : Int) := by rw [show (256 : Nat) ^ k = 2 ^ (8 * k) by rw [Nat.pow_mul], Int.natCast_pow]; rfl
      rw [e2, hq, IntKind.wrap_u64, show ((256 ^ k : Nat) : Int) % 18446744073709551616 = ((256 ^ k : Nat) : Int) by omega, Int.natCast_emod]
    clear hq
    go_enter Try.func5, Try.ntmps5
    go_wp2_with (first
      | (go_at_call 8; (with_reducible refine (speaks14 _).mono ?_); rintro e wn ⟨rfl, hb⟩; replace B := Lib.hid (B.out.trans (hb.mono B.out.size)); clear hb)
      | (go_at_call 26; (with_reducible refine (num_any t v k hk9 _).mono ?_); rintro e wn ⟨A1, c1, rfl, h1, hb⟩; replace B := Lib.hid (B.out.trans (hb.mono B.out.size)); have ba := (Below.refl wn.heap.size wn).alloc (Nat.le_refl _) (.cells #[.int .u8 (t : Int), .slice A1 k c1] 33); have R := Lib.hid ((Rd.own h1).on ba); replace B := Lib.hid (B.out.trans (ba.mono B.out.size)); clear h1 hb ba)
      | (go_at_call 15; (with_reducible refine (value_any _ (numB v k) k c1 A1 _ R.out (num_by v k) (num_len v k) (by omega) q HV.out).mono ?_); rintro e wn ⟨rfl, hb⟩; replace B := Lib.hid (B.out.trans (hb.mono B.out.size)); clear hb))
    go_ret
    exact ⟨rfl, B.out⟩
  · obtain rfl : k = 8 := by omega
    have HV := Lib.hid (show valB (numB v 8) = v by rw [num_valB v 8 (by omega)]; exact Nat.mod_eq_of_lt hv)
    go_enter Try.func5, Try.ntmps5
    go_wp2_with (first
      | (go_at_call 8; (with_reducible refine (speaks14 _).mono ?_); rintro e wn ⟨rfl, hb⟩; replace B := Lib.hid (B.out.trans (hb.mono B.out.size)); clear hb)
      | (go_at_call 26; (with_reducible refine (num_eight t v _).mono ?_); rintro e wn ⟨A1, c1, rfl, h1, hb⟩; replace B := Lib.hid (B.out.trans (hb.mono B.out.size)); have ba := (Below.refl wn.heap.size wn).alloc (Nat.le_refl _) (.cells #[.int .u8 (t : Int), .slice A1 8 c1] 33); have R := Lib.hid ((Rd.own h1).on ba); replace B := Lib.hid (B.out.trans (ba.mono B.out.size)); clear h1 hb ba)
      | (go_at_call 15; (with_reducible refine (value_any _ (numB v 8) 8 c1 A1 _ R.out (num_by v 8) (num_len v 8) (by omega) v HV.out).mono ?_); rintro e wn ⟨rfl, hb⟩; replace B := Lib.hid (B.out.trans (hb.mono B.out.size)); clear hb))
    go_ret
    exact ⟨rfl, B.out⟩
end Go.Proofs.Ytmilbkhkefbjkaa
