
/-
  Calls of layer 22 as the laws' walks want them. No condition.
-/
import Derived.Test.YtmhjnghomihjlaaGreatEthI
import Derived.Test.YtmhjnghomihjlaaGreatEthO
import Derived.Test.YtmhjnghomihjlaaGreatEthY
namespace Go.Proofs.YtmhjnghomihjlaaGreat
set_option maxRecDepth 4000
open Go.RowKit
set_option linter.unusedVariables false

theorem fr0_byG : ByG fr0.tags := fun _ h => (List.not_mem_nil h).elim
/-- No frame, and the zero one, are the same. -/
theorem esame_zero (z : Fr) (hz : fr0 = z) (q : Fl) (w : World) (h : FwF (fun _ => True) w z q) :
    Calls Tryz.prog 14 #[z.val q, .agg #[.int .u8 0, .int .u16 0, .slice none 0 0, .int .u16 0, .int .u8 0, .int .u8 0, .slice none 0 0, .int .u16 0, .int .u32 0, .slice none 0 0, .slice none 0 0, .slice none 0 0, .slice none 0 0]] w fun e w' => e = .returned (.bool true) ∧ Below w.heap.size w w' := by
  subst hz
  exact esame_yes fr0 q fl0 w h fwF0 fr0_byG sm0 (by rw [← h.lt]; decide)
/-- To, its answer's blocks forgotten. -/
theorem eto_v (f : Fr) (q : Fl) (w : World) (h : FwF (fun _ => True) w f q) (hn : f.tags.length ≤ 1073741824) (hn2 : f.pkt.opts.length ≤ 1073741824) :
    Calls Tryz.prog 15 #[f.val q] w fun e w' => ∃ r, e = .returned (f.val r) ∧ FwF (fun _ => True) w' f r ∧ Below w.heap.size w w' :=
  etoF_any (fun _ => True) f q w (fun _ _ => trivial) h (by rw [← h.lt]; exact hn) (by rw [← h.pk.lo]; exact hn2)
end Go.Proofs.YtmhjnghomihjlaaGreat
