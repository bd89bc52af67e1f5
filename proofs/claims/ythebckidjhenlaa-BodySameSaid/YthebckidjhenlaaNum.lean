
/-
  The document's Number and Read: a number as octets, octets as a number. No condition beyond: at most 4 octets read.
-/
import Derived.Test.YthebckidjhenlaaGOps
import Derived.Test.YthebckidjhenlaaGWord
namespace Go.Proofs.Ythebckidjhenlaa
set_option maxRecDepth 4000
open Go.RowKit

theorem valN_at {l : List Nat} {k x : Nat} (hx : l[k]? = some x) : valN (l.take (k + 1)) = 256 * valN (l.take k) + x := by rw [valN_snoc hx]; omega
theorem valN_le4 {l : List Nat} (hb : By l) (k : Nat) (hk : k ≤ 4) : valN (l.take k) < 4294967296 := by
  have h := valN_lt (hb.take k)
  have h1 : (l.take k).length ≤ 4 := by rw [List.length_take]; omega
  have h2 : (256 : Nat) ^ (l.take k).length ≤ 256 ^ 4 := Nat.pow_le_pow_right (by omega) h1
  have h3 : (256 : Nat) ^ 4 = 4294967296 := by decide
  omega

end Go.Proofs.Ythebckidjhenlaa
