
/-
  What the calls of layer 3 and the document's own answer: maps of octets as the bits of a number. No condition beyond: maps below 2^32, bytes below 256, lists of at most 2^40 elements.
-/
import Derived.Test.YtmhjnghomihjlaaGreatGWord
import Derived.Laws.BitsAll
namespace Go.Proofs.YtmhjnghomihjlaaGreat
set_option maxRecDepth 4000
open Go.RowKit

/-- Is an octet in a map? -/
def hasB (m c : Nat) : Bool := decide (c < 32) && decide (m / 2 ^ c % 2 = 1)
def mustB (m c : Nat) : Bool := decide (c = 125) || decide (c = 126) || hasB m c

theorem u32_div_lt {m : Nat} (c : Nat) (hm : m < 4294967296) : m / 2 ^ c < 4294967296 := Nat.lt_of_le_of_lt (Nat.div_le_self _ _) hm
theorem shr_cast (m c : Nat) : ((m : Int) / 2 ^ c) = ((m / 2 ^ c : Nat) : Int) := by simp
theorem odd_cast (y : Nat) : (((y % 2 : Nat) : Int) == 1) = decide (y % 2 = 1) := by
  rw [Bool.eq_iff_iff]
  simp
  omega
theorem low_u32 (m : Nat) (hm : m < 4294967296) : bits .and .u32 (m : Int) 1 = ((m % 2 : Nat) : Int) := by
  have := u32_and_nat m 1 hm (by omega)
  rw [nat_mask1] at this
  exact this

def withinB (a b : Nat) : Bool := decide (a &&& (4294967295 - b) = 0)

end Go.Proofs.YtmhjnghomihjlaaGreat
