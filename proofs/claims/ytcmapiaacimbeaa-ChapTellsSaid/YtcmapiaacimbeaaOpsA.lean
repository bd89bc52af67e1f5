
/-
  What known, sought and Size answer, and the document's Size. No condition beyond: a protocol below 2^16, a type below 256.
-/
import Derived.Test.YtcmapiaacimbeaaOpsK
namespace Go.Proofs.Ytcmapiaacimbeaa
open Go.RowKit Go.Maps

end Go.Proofs.Ytcmapiaacimbeaa
