
/-
  What the calls of layer 3 and the document's own answer: maps of octets as the bits of a number. No condition beyond: maps below 2^32, bytes below 256, lists of at most 2^40 elements.
-/
import Derived.Test.YtkakkligndejaaaDoorEq
import Derived.Laws.BitsAll
namespace Go.Proofs.YtkakkligndejaaaDoor
open Go.RowKit

/-- Is an octet in a map? -/
def hasB (m c : Nat) : Bool := decide (c < 32) && decide (m / 2 ^ c % 2 = 1)
def mustB (m c : Nat) : Bool := decide (c = 125) || decide (c = 126) || hasB m c

theorem u32_div_lt {m : Nat} (c : Nat) (hm : m < 4294967296) : m / 2 ^ c < 4294967296 := Nat.lt_of_le_of_lt (Nat.div_le_self _ _) hm
theorem shr_cast (m c : Nat) : ((m : Int) / 2 ^ c) = ((m / 2 ^ c : Nat) : Int) := by simp
theorem odd_cast (y : Nat) : (((y % 2 : Nat) : Int) == 1) = decide (y % 2 = 1) := by
  rw [Bool.eq_iff_iff]
  simp
  omega
theorem low_u32 (m : Nat) (hm : m < 4294967296) : bits .and .u32 (m : Int) 1 = ((m % 2 : Nat) : Int) := by
  have := u32_and_nat m 1 hm (by omega)
  rw [nat_mask1] at this
  exact this

set_option maxHeartbeats 400000 in
theorem has_any (m c : Nat) (hm : m < 4294967296) (hc : c < 256) (w : World) :
    Calls Tryd.prog 69 #[.int .u32 (m : Int), .int .u8 (c : Int)] w fun e w' => e = .returned (.bool (hasB m c)) ∧ w = w' := by
  by_cases h : c < 32
  · have h' : (c : Int) < 32 := by omega
    go_enter Tryd.func69, Tryd.ntmps69
    go_wp2
    go_ret
    refine ⟨?_, rfl⟩
    have e : (bits .and .u32 ((m : Int) / 2 ^ c) 1 == 1) = hasB m c := by
      rw [shr_cast, low_u32 _ (u32_div_lt c hm), hasB]
      simp only [h, decide_true, Bool.true_and]
      exact odd_cast _
    show Ending.returned (.bool (bits .and .u32 ((m : Int) / 2 ^ c) 1 == 1)) = _
    rw [e]
  · have h' : ¬ (c : Int) < 32 := by omega
    go_enter Tryd.func69, Tryd.ntmps69
    go_wp2
    go_ret
    refine ⟨?_, rfl⟩
    simp [hasB, h]

set_option maxHeartbeats 400000 in
theorem must_any (m c : Nat) (hm : m < 4294967296) (hc : c < 256) (w : World) :
    Calls Tryd.prog 62 #[.int .u32 (m : Int), .int .u8 (c : Int)] w fun e w' => e = .returned (.bool (mustB m c)) ∧ w = w' := by
  by_cases h1 : c = 125
  · subst h1
    go_enter Tryd.func62, Tryd.ntmps62
    go_wp2
    go_ret
    exact ⟨rfl, rfl⟩
  by_cases h2 : c = 126
  · subst h2
    go_enter Tryd.func62, Tryd.ntmps62
    go_wp2
    go_ret
    exact ⟨rfl, rfl⟩
  have e1 : ((c : Int) == 125) = false := by simp; omega
  have e2 : ((c : Int) == 126) = false := by simp; omega
  go_enter Tryd.func62, Tryd.ntmps62
  go_wp2_with (go_at_call 69; refine (has_any m c hm hc _).mono ?_; rintro e w' ⟨rfl, rfl⟩)
  go_ret
  refine ⟨?_, rfl⟩
  simp [mustB, h1, h2]

set_option maxHeartbeats 400000 in
theorem rhas_any (m c : Nat) (hm : m < 4294967296) (hc : c < 256) (w : World) :
    Calls Tryd.prog 63 #[.int .u32 (m : Int), .int .u8 (c : Int)] w fun e w' => e = .returned (.bool (hasB m c)) ∧ w = w' := by
  by_cases h : c < 32
  · have h' : ¬ (31 : Int) < c := by omega
    go_enter Tryd.func63, Tryd.ntmps63
    go_wp2
    go_loop [0, 5] (fun v i => ∃ k y : Nat, k ≤ c ∧ i = .int .u8 k ∧ v = .int .u32 y ∧ y < 4294967296 ∧ Hid (y = m / 2 ^ k)) (fun _ i => c - (intOf i).toNat)
    case atStart => exact ⟨0, m, Nat.zero_le _, rfl, rfl, hm, Lib.hid (by simp)⟩
    case round =>
      obtain ⟨k, y, hk, rfl, rfl, hy, hyx⟩ := hrel
      by_cases hlt : k < c
      · have R := Lib.hid (show y / 2 = m / 2 ^ (k + 1) by rw [hyx.out, Nat.div_div_eq_div_mul, Nat.pow_succ])
        go_wp2
        go_round
        case rel => exact ⟨k + 1, y / 2, by omega, by go_num, by go_num, by omega, R⟩
        case measure => simp [intOf]; omega
      · go_wp2
        go_ret
        refine ⟨?_, rfl⟩
        have hkc : k = c := by omega
        subst hkc
        have e : ((y : Int) % 2 == 1) = hasB m k := by
          rw [hasB, ← hyx.out]
          simp only [h, decide_true, Bool.true_and]
          rw [Bool.eq_iff_iff]
          simp
          omega
        show Ending.returned (.bool ((y : Int) % 2 == 1)) = _
        rw [e]
  · have h' : (31 : Int) < c := by omega
    go_enter Tryd.func63, Tryd.ntmps63
    go_wp2
    go_ret
    refine ⟨?_, rfl⟩
    simp [hasB, h]

set_option maxHeartbeats 400000 in
theorem rmust_any (m c : Nat) (hm : m < 4294967296) (hc : c < 256) (w : World) :
    Calls Tryd.prog 49 #[.int .u32 (m : Int), .int .u8 (c : Int)] w fun e w' => e = .returned (.bool (mustB m c)) ∧ w = w' := by
  by_cases h1 : c = 125
  · subst h1
    go_enter Tryd.func49, Tryd.ntmps49
    go_wp2
    go_ret
    exact ⟨rfl, rfl⟩
  by_cases h2 : c = 126
  · subst h2
    go_enter Tryd.func49, Tryd.ntmps49
    go_wp2
    go_ret
    exact ⟨rfl, rfl⟩
  have e1 : ((c : Int) == 125) = false := by simp; omega
  have e2 : ((c : Int) == 126) = false := by simp; omega
  go_enter Tryd.func49, Tryd.ntmps49
  go_wp2_with (go_at_call 63; refine (rhas_any m c hm hc _).mono ?_; rintro e w' ⟨rfl, rfl⟩)
  go_ret
  refine ⟨?_, rfl⟩
  simp [mustB, h1, h2]

def withinB (a b : Nat) : Bool := decide (a &&& (4294967295 - b) = 0)

set_option maxHeartbeats 400000 in
theorem within_any (a b : Nat) (ha : a < 4294967296) (hb : b < 4294967296) (w : World) :
    Calls Tryd.prog 38 #[.int .u32 (a : Int), .int .u32 (b : Int)] w fun e w' => e = .returned (.bool (withinB a b)) ∧ w = w' := by
  go_enter Tryd.func38, Tryd.ntmps38
  go_wp2
  go_ret
  refine ⟨?_, rfl⟩
  show Ending.returned (.bool (bits .andNot .u32 (a : Int) (b : Int) == 0)) = _
  rw [u32_andNot_nat a b ha hb]
  congr 2
  rw [withinB, Bool.eq_iff_iff]
  simp

end Go.Proofs.YtkakkligndejaaaDoor
