/-
  The walk of the statement AccmTells: it answers true for every two maps. No condition.
-/
import Derived.Test.YtidkddffkhbaaaaAccs
namespace Go.Proofs.Ytidkddffkhbaaaa
open Go.RowKit

/-- Are the octets below k of a map in the other? -/
def insB (a b k : Nat) : Bool := (List.range k).all fun c => !hasB a c || hasB b c
theorem insB_zero (a b : Nat) : insB a b 0 = true := rfl
theorem insB_succ (a b k : Nat) : insB a b (k + 1) = (insB a b k && (!hasB a k || hasB b k)) := by
  simp [insB, List.range_succ, List.all_append]
theorem insB_all (a b : Nat) (ha : a < 4294967296) (hb : b < 4294967296) : withinB a b = insB a b 256 := by
  rw [Bool.eq_iff_iff, within_bit a b ha hb, insB, List.all_eq_true]
  constructor
  · intro h c _
    rw [hasB_bit, hasB_bit]
    cases hc : a.testBit c
    · simp
    · simp [h c hc]
  · intro h c hc
    have h32 : c < 32 := by
      rcases Nat.lt_or_ge c 32 with h1 | h1
      · exact h1
      · rw [Nat.testBit_lt_two_pow (Nat.lt_of_lt_of_le ha (Nat.pow_le_pow_right (n := 2) (by omega) h1))] at hc
        cases hc
    have := h c (List.mem_range.2 (by omega))
    rw [hasB_bit, hasB_bit, hc] at this
    simpa [h32] using this

set_option maxHeartbeats 1000000 in
theorem tells_walk (a b : Nat) (ha : a < 4294967296) (hb : b < 4294967296) (w : World) :
    Calls Try.prog 3 #[.int .u32 (a : Int), .int .u32 (b : Int)] w fun e w' => e = .returned (.bool true) ∧ Below w.heap.size w w' := by
  have HA := Lib.hid ha
  have HB := Lib.hid hb
  clear ha hb
  go_enter Try.func3, Try.ntmps3
  go_wp2_with fail
  refine (speaks_any _).mono ?_
  rintro e w1 ⟨rfl, hB1⟩
  go_wp2_with fail
  go_loop [5, 10] (fun v i => ∃ k : Nat, k ≤ 256 ∧ i = .int .i64 k ∧ ∃ t, v = .bool t ∧ Hid (t = insB a b k)) (fun _ i => 256 - (intOf i).toNat)
  case atStart => exact ⟨0, Nat.zero_le _, rfl, _, rfl, Lib.hid rfl⟩
  case round =>
    obtain ⟨k, hk, rfl, t, rfl, ht⟩ := hrel
    by_cases hlt : k < 256
    · have i1 : (k : Int) < 256 := by omega
      obtain ⟨p, hp⟩ : ∃ p, Hid (hasB a k = p) := ⟨_, Lib.hid rfl⟩
      obtain ⟨q, hq⟩ : ∃ q, Hid (hasB b k = q) := ⟨_, Lib.hid rfl⟩
      obtain ⟨s, hs⟩ : ∃ s, Hid (mustB a k = s) := ⟨_, Lib.hid rfl⟩
      have R := Lib.hid (insB_succ a b k)
      rw [← ht.out, hp.out, hq.out] at R
      have k0 : (0 : Int) ≤ k := by omega
      have HLT := Lib.hid hlt
      clear hlt hk
      cases p <;> cases q <;> cases s <;> cases t
      all_goals go_wp2_with (first
        | (go_at_call 7; with_reducible refine (has_any a k HA.out HLT.out _).mono ?_; rintro e w' ⟨rfl, rfl⟩; rw [hp.out])
        | (go_at_call 8; with_reducible refine (rhas_any a k HA.out HLT.out _).mono ?_; rintro e w' ⟨rfl, rfl⟩; rw [hp.out])
        | (go_at_call 8; with_reducible refine (rhas_any b k HB.out HLT.out _).mono ?_; rintro e w' ⟨rfl, rfl⟩; rw [hq.out])
        | (go_at_call 9; with_reducible refine (must_any a k HA.out HLT.out _).mono ?_; rintro e w' ⟨rfl, rfl⟩; rw [hs.out])
        | (go_at_call 10; with_reducible refine (rmust_any a k HA.out HLT.out _).mono ?_; rintro e w' ⟨rfl, rfl⟩; rw [hs.out]))
      all_goals
        go_round
        case rel => exact ⟨k + 1, HLT.out, by go_num, _, rfl, Lib.hid (R.out.trans rfl).symm⟩
        case measure => have := HLT.out; simp [intOf]; omega
    · have i1 : ¬ (k : Int) < 256 := by omega
      have hab := Lib.hid (insB_all a b HA.out HB.out)
      rw [show (256 : Nat) = k from by omega, ← ht.out] at hab
      clear hk hlt
      go_wp2_with fail
      refine (list_any a HA.out _).mono ?_
      rintro e w3 ⟨A3, c3, n3, rfl, hn3, hl3, -, hr3, hb3⟩
      have hB3 := hB1.trans (hb3.mono hB1.size)
      have HL3 := Lib.hid hl3
      clear hb3 hl3
      go_wp2_with fail
      refine (rlist_any a HA.out _).mono ?_
      rintro e w4 ⟨A4, c4, n4, rfl, hn4, hl4, -, hr4, hb4⟩
      have hr3' := (hr3.below hb4).more hb4.size
      have hB4 := hB3.trans (hb4.mono hB3.size)
      have HL4 := Lib.hid hl4
      clear hb4 hl4 hr3
      go_wp2_with fail
      refine (equal_yes _ _ n3 n4 _ _ _ _ _ hr3' hr4 HL3.out HL4.out (by omega) rfl).mono ?_
      rintro e w5 ⟨rfl, hb5⟩
      have hB5 := hB4.trans (hb5.mono hB4.size)
      have htt : (t == t) = true := by simp
      go_wp2_with (go_at_call 14; refine (within_any a b HA.out HB.out _).mono ?_; rintro e w' ⟨rfl, rfl⟩; rw [hab.out])
      go_ret
      exact ⟨rfl, hB5⟩

end Go.Proofs.Ytidkddffkhbaaaa
