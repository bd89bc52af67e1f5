/-
  DERIVED. GIVEN WITH THE SEED: THE PROGRAM's TIES (one call each: nine closed facts by the kernel) AND EACH ROW's TIE, after the 31st guide's Derived/Test/Toyas{Tie, Card}.lean. No idea stands in it: it is a product of the set-up. Laid BY PROGRAM, IN A SANDBOX (cutbox-door.mjs). By AI agents, Wed Nov 11 2026. No macro, syntax, notation, axiom, sorry.
-/
import Derived.Test.YtinajpmhpbjaiaaDoorRows
import Derived.LaidByTextLater
import Derived.SevenTiedAt
import Derived.LaidSub
import Derived.LaidOnce
namespace Go.Proofs.YtinajpmhpbjaiaaDoor
open Go
set_option maxRecDepth 100000
theorem seatTie1 : Tryd.prog.laidByTextLater [("marline/fcs.steps", Rows.laid_marline_fcs_steps), ("marline/fcs.stepsWide", Rows.laid_marline_fcs_stepsWide)] [.called, .data] true :=
  Program.laidByTextLater_by_one 3520 8 17 (by kernel_rfl) (by kernel_rfl) (by kernel_rfl) (by kernel_rfl) (by kernel_rfl) (by kernel_rfl) (fun _ _ => by kernel_rfl)
theorem noOwnUnsafe : Tryd.pinned.checked.prog.headLifts.contains "ownunsafe" = false := by kernel_rfl
theorem tie : Tryd.prog.laidByTextLater [("marline/fcs.steps", Rows.laid_marline_fcs_steps), ("marline/fcs.stepsWide", Rows.laid_marline_fcs_stepsWide)] [.called, .data] true :=
  Program.laidByTextLater.sub seatTie1 ["marline/fcs.steps", "marline/fcs.stepsWide"] (by kernel_rfl) (by kernel_rfl)
theorem fcsSums_row_tie : Rows.fcsSumsRow.laidByTextAt .later Tryd.pinned [.called, .data] true :=
  OpenClaim.laidByTextAt_later rfl rfl tie noOwnUnsafe
theorem fcsMore_row_tie : Rows.fcsMoreRow.laidByTextAt .later Tryd.pinned [.called, .data] true :=
  OpenClaim.laidByTextAt_later rfl rfl tie noOwnUnsafe
theorem fcsResidue_row_tie : Rows.fcsResidueRow.laidByTextAt .later Tryd.pinned [.called, .data] true :=
  OpenClaim.laidByTextAt_later rfl rfl tie noOwnUnsafe
theorem fcsBursts_row_tie : Rows.fcsBurstsRow.laidByTextAt .later Tryd.pinned [.called, .data] true :=
  OpenClaim.laidByTextAt_later rfl rfl tie noOwnUnsafe
theorem fcsSums2_row_tie : Rows.fcsSums2Row.laidByTextAt .later Tryd.pinned [.called, .data] true :=
  OpenClaim.laidByTextAt_later rfl rfl tie noOwnUnsafe
theorem fcsSumsUpto_row_tie : Rows.fcsSumsUptoRow.laidByTextAt .later Tryd.pinned [.called, .data] true :=
  OpenClaim.laidByTextAt_later rfl rfl tie noOwnUnsafe
theorem fcsMoreUpto_row_tie : Rows.fcsMoreUptoRow.laidByTextAt .later Tryd.pinned [.called, .data] true :=
  OpenClaim.laidByTextAt_later rfl rfl tie noOwnUnsafe
theorem fcsResidueUpto_row_tie : Rows.fcsResidueUptoRow.laidByTextAt .later Tryd.pinned [.called, .data] true :=
  OpenClaim.laidByTextAt_later rfl rfl tie noOwnUnsafe
theorem fcsBurstsUpto_row_tie : Rows.fcsBurstsUptoRow.laidByTextAt .later Tryd.pinned [.called, .data] true :=
  OpenClaim.laidByTextAt_later rfl rfl tie noOwnUnsafe
theorem fcsSums2Upto_row_tie : Rows.fcsSums2UptoRow.laidByTextAt .later Tryd.pinned [.called, .data] true :=
  OpenClaim.laidByTextAt_later rfl rfl tie noOwnUnsafe
end Go.Proofs.YtinajpmhpbjaiaaDoor
