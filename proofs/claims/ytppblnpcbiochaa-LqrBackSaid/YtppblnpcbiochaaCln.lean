
/-
  bytes.Clone: a copy of the call's own; of nil: nil. No condition beyond: at most 2^38 elements.
-/
import Derived.Test.YtppblnpcbiochaaAppn
import Derived.Lib.SliceRun
namespace Go.Proofs.Ytppblnpcbiochaa
open Go.RowKit

end Go.Proofs.Ytppblnpcbiochaa
