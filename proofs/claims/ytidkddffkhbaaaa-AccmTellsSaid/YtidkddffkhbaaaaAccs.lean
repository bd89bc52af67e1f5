/-
  What the example of layer 3 answers; lists alone: maps, their octets, and maps within maps. No condition.
-/
import Derived.Test.YtidkddffkhbaaaaAccl
namespace Go.Proofs.Ytidkddffkhbaaaa
open Go.RowKit

set_option maxHeartbeats 400000 in
theorem speaks_any (w : World) : Calls Try.prog 6 #[] w fun e w' => e = .returned (.bool true) ∧ Below w.heap.size w w' := by
  go_enter Try.func6, Try.ntmps6
  go_wp2_with fail
  refine (list_any 9 (by omega) w).mono ?_
  rintro e w1 ⟨A1, c1, n1, rfl, hn1, hl1, -, hr1, hb1⟩
  have HL1 := Lib.hid hl1
  clear hl1
  have hB1 := hb1
  go_wp2_with fail
  refine (equal_yes (mapB 9 32) [0, 3] n1 2 _ _ _ _ _ ((hr1.alloc (Nat.le_refl _) _).more (by simp)) (Rd.lit_ w1 [0, 3]) HL1.out rfl (by omega) (by decide)).mono ?_
  rintro e w2 ⟨rfl, hb2⟩
  have hB2 := (hB1.alloc hB1.size _).trans (hb2.mono (B' := w.heap.size) (by have := hB1.size; simp; omega))
  clear hb2 hB1 hr1
  go_wp2_with (go_at_call 9; refine (must_any 0 126 (by omega) (by omega) _).mono ?_; rintro e w' ⟨rfl, rfl⟩)
  go_ret
  exact ⟨rfl, hB2⟩

theorem hasB_bit (m c : Nat) : hasB m c = (decide (c < 32) && m.testBit c) := by
  rw [hasB, Nat.testBit_eq_decide_div_mod_eq]
theorem within_bit (a b : Nat) (ha : a < 4294967296) (hb : b < 4294967296) : withinB a b = true ↔ ∀ c, a.testBit c = true → b.testBit c = true := by
  have e : 4294967295 - b = 2 ^ 32 - (b + 1) := by omega
  rw [withinB, decide_eq_true_iff, e]
  constructor
  · intro h c hc
    have := congrArg (fun x => Nat.testBit x c) h
    simp only [Nat.testBit_and, Nat.zero_testBit, hc, Bool.true_and, Nat.testBit_two_pow_sub_succ (n := 32) hb] at this
    have hc32 : c < 32 := by
      rcases Nat.lt_or_ge c 32 with h1 | h1
      · exact h1
      · rw [Nat.testBit_lt_two_pow (Nat.lt_of_lt_of_le ha (Nat.pow_le_pow_right (n := 2) (by omega) h1))] at hc
        cases hc
    simpa [hc32] using this
  · intro h
    apply Nat.eq_of_testBit_eq
    intro c
    rw [Nat.testBit_and, Nat.zero_testBit, Nat.testBit_two_pow_sub_succ (n := 32) hb]
    cases hc : a.testBit c
    · simp
    · simp [h c hc]

end Go.Proofs.Ytidkddffkhbaaaa
