
/-
  The tags' rows of the program's table of types. No condition.
-/
import Derived.Test.YtldadfmcganejaaTagO
import Derived.Test.YtldadfmcganejaaCln
import Derived.BigQuiet
namespace Go.Proofs.Ytldadfmcganejaa
set_option maxRecDepth 4000
open Go.RowKit

theorem tag_info : (Try.prog.info? 50).map (fun i => (i.zero, i.size, i.bytes)) = some (some (.agg #[.int .u16 0, .slice none 0 0]), 2, 32) := by kernel_rfl
theorem rtag_info : (Try.prog.info? 48).map (fun i => (i.zero, i.size, i.bytes)) = some (some (.agg #[.int .u16 0, .slice none 0 0]), 2, 32) := by kernel_rfl
end Go.Proofs.Ytldadfmcganejaa
