
/-
  A config as a value; what the calls of layer 8 and the document's own answer: Check, Most, Fits, Default. No condition beyond: maps below 2^32, an MRU that an int may have (that may be, for Most).
-/
import Derived.Test.YtmhjnghomihjlaaGreatAccm
namespace Go.Proofs.YtmhjnghomihjlaaGreat
set_option maxRecDepth 4000
open Go.RowKit

/-- A config. -/
structure Cf where
  sync : Bool
  wide : Bool
  acfc : Bool
  pfc : Bool
  send : Nat
  recv : Nat
  mru : Int
/-- Its value. -/
abbrev Cf.val (c : Cf) : Value := .agg #[.bool c.sync, .bool c.wide, .bool c.acfc, .bool c.pfc, .int .u32 (c.send : Int), .int .u32 (c.recv : Int), .int .i64 c.mru]
/-- It is one of Go's. -/
structure Cf.ok (c : Cf) : Prop where
  s : c.send < 4294967296
  r : c.recv < 4294967296
  lo : -9223372036854775808 ≤ c.mru
  hi : c.mru ≤ 9223372036854775807
def Cf.may (c : Cf) : Prop := 64 ≤ c.mru ∧ c.mru ≤ 65535
def chk (m : Int) : Int := if m < 64 then 5 else if 65535 < m then 5 else 0
theorem chk_may {c : Cf} (h : c.may) : chk c.mru = 0 := by
  have h1 := h.1
  have h2 := h.2
  simp [chk]; omega
theorem chk_not {c : Cf} (h : ¬ c.may) : chk c.mru = 5 := by
  simp only [chk]
  split
  · rfl
  · split
    · rfl
    · exact absurd ⟨by omega, by omega⟩ h
theorem chk_cases (m : Int) : chk m = 0 ∨ chk m = 5 := by simp only [chk]; split <;> (try split) <;> simp

/-- What follows answers. -/
def folB (p q : Bool) : Bool := q || !p
/-- Does one end read what another one sends? -/
def fitsB (a b : Cf) : Bool := (a.sync == b.sync) && ((a.wide == b.wide) && (folB a.acfc b.acfc && (folB a.pfc b.pfc && ((a.sync || withinB b.recv a.send) && decide (a.mru ≤ b.mru)))))

def sizeI (wide : Bool) : Int := if wide then 4 else 2
/-- What Most answers. -/
def mostI (c : Cf) : Int := c.mru + 4 + sizeI c.wide

theorem below_two (w : World) (o1 o2 : Obj) : Below w.heap.size w ((w.alloc o1).alloc o2) := ((Below.refl _ _).alloc (Nat.le_refl _) _).alloc (by simp) _

/-- Are the octets below k of a map in the other? -/
def insC (a b k : Nat) : Bool := (List.range k).all fun c => !hasB a c || hasB b c
theorem insC_zero (a b : Nat) : insC a b 0 = true := rfl
theorem insC_succ (a b k : Nat) : insC a b (k + 1) = (insC a b k && (!hasB a k || hasB b k)) := by
  simp [insC, List.range_succ, List.all_append]
theorem hasC_bit (m c : Nat) : hasB m c = (decide (c < 32) && m.testBit c) := by
  rw [hasB, Nat.testBit_eq_decide_div_mod_eq]
theorem withinC_bit (a b : Nat) (ha : a < 4294967296) (hb : b < 4294967296) : withinB a b = true ↔ ∀ i, a.testBit i = true → b.testBit i = true := by
  have h32 : (4294967295 : Nat) - b = 2 ^ 32 - (b + 1) := by omega
  rw [withinB, decide_eq_true_iff, h32]
  constructor
  · intro h i hi
    have := congrArg (fun x => x.testBit i) h
    simp only [Nat.testBit_and, Nat.zero_testBit, hi, Bool.true_and] at this
    rw [Nat.testBit_two_pow_sub_succ (by omega)] at this
    have h1 : i < 32 := by
      rcases Nat.lt_or_ge i 32 with h1 | h1
      · exact h1
      · rw [Nat.testBit_lt_two_pow (Nat.lt_of_lt_of_le ha (Nat.pow_le_pow_right (n := 2) (by omega) h1))] at hi
        cases hi
    simpa [h1] using this
  · intro h
    apply Nat.eq_of_testBit_eq
    intro i
    rw [Nat.testBit_and, Nat.zero_testBit, Nat.testBit_two_pow_sub_succ (by omega)]
    cases hi : a.testBit i
    · rfl
    · simp [h i hi]
theorem insC_all (a b : Nat) (ha : a < 4294967296) (hb : b < 4294967296) : withinB a b = insC a b 32 := by
  rw [Bool.eq_iff_iff, withinC_bit a b ha hb, insC, List.all_eq_true]
  constructor
  · intro h c hc
    rw [hasC_bit, hasC_bit]
    cases hc : a.testBit c
    · simp
    · simp [h c hc]
  · intro h c hc
    have h32 : c < 32 := by
      rcases Nat.lt_or_ge c 32 with h1 | h1
      · exact h1
      · rw [Nat.testBit_lt_two_pow (Nat.lt_of_lt_of_le ha (Nat.pow_le_pow_right (n := 2) (by omega) h1))] at hc
        cases hc
    have := h c (List.mem_range.2 h32)
    rw [hasC_bit, hasC_bit, hc] at this
    simpa [h32] using this
theorem insC_mono {a b k n : Nat} (h : insC a b k = false) (hk : k ≤ n) : insC a b n = false := by
  rw [← Bool.not_eq_true, insC, List.all_eq_true] at h ⊢
  intro g
  exact h fun c hc => g c (List.mem_range.2 (by have := List.mem_range.1 hc; omega))

end Go.Proofs.YtmhjnghomihjlaaGreat
