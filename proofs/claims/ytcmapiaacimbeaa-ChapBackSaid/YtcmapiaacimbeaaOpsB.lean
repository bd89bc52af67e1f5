
/-
  What the document's Size answers. No condition.
-/
import Derived.Test.YtcmapiaacimbeaaOpsM
import Derived.Test.YtcmapiaacimbeaaTlvS
namespace Go.Proofs.Ytcmapiaacimbeaa
open Go.RowKit

end Go.Proofs.Ytcmapiaacimbeaa
