
/-
  What the document's Size answers. No condition.
-/
import Derived.Test.YtbagdaidhnegaaaOpsM
import Derived.Test.YtbagdaidhnegaaaTlvS
namespace Go.Proofs.Ytbagdaidhnegaaa
open Go.RowKit

end Go.Proofs.Ytbagdaidhnegaaa
