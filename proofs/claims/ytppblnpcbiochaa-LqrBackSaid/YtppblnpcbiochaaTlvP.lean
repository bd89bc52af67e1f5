
/-
  What the small calls of layer 12 answer: size, long, equal, first, Size, Put's search for data that are too long. No condition beyond: sizes below 2^47.
-/
import Derived.Test.YtppblnpcbiochaaTlvO
import Derived.Test.YtppblnpcbiochaaBEq
import Derived.WalkMore
namespace Go.Proofs.Ytppblnpcbiochaa
open Go.RowKit

/-- An option as a value. -/
abbrev oV (t : Nat) (A : Option Addr) (n c : Nat) : Value := .agg #[.int .u8 (t : Int), .slice A n c]

end Go.Proofs.Ytppblnpcbiochaa
