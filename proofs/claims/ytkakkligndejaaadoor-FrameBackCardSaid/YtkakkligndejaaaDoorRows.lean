/-
  NARROWER THAN 'FOR EVERY INPUT', by the rows' own cells (each row's printed sentence says how): FrameTells: laid · FrameBack: laid · FrameSpoils: laid · FrameParts: laid.
  DERIVED. THE GIVEN ROWS OF THIS SEAT. 4 by the template 'for every input the law returns true; each argument reads behind the call as it read before'; 0 by the template 'total and deterministic' (their statements: YtkakkligndejaaaDoorTotals.lean).
  GIVEN WITH THE SEED: the statements are not yours to turn. If you find one false, say at which input.
  Laid BY PROGRAM, IN A SANDBOX (cutbox-rows.mjs): the forced cells as the released guide's own fill.sh prints them over the translation b27608b9368757b9… (all of the seat's roots in one cut). By AI agents, Wed Nov 11 2026. No macro, syntax, notation, axiom, sorry.
-/
import Derived.Test.YtkakkligndejaaaDoorChecked
import GoSem.Claim
import GoSem.ClaimJoined
import GoSem.ClaimMapViews
import Derived.JoinedTies
import Derived.KernelRfl
namespace Go.Proofs.YtkakkligndejaaaDoor
/- THE CELL 'sum', in the pinned program and in every row, IS THE sha256 OF THE DUMP (.gsa) THAT YtkakkligndejaaaDoorProg.lean LOADS. Nothing in Lean hashes anything: it is a label: what it is worth is what the hold of that sum in a sandbox is worth. -/
noncomputable def Tryd.pinned : Pinned := { name := "ytkakkligndejaaadoor", sum := "b27608b9368757b9c17c66bdebd231078c08802d5fe03f3357146ad5308dcfd8", checked := Tryd.checked }
namespace Rows
def none {H : Type} : Left H := { results := [], args := [] }

/- WHAT THE LISTED PACKAGE-LEVEL VARIABLES READ AS WHEN THE CALL BEGINS. Each datum BY PROGRAM (the guide's laid-datum.mjs) off the statement by which the dump's own 'gosem.cut.vars' lays the variable. In a bare row this is a premise. The card (YtkakkligndejaaaDoorCards.lean) ties it to the program's text. -/
def laid_marline_fcs_steps {H : Type} : DataW H := .agg [.lit (.int .u32 0), .lit (.int .u32 4225), .lit (.int .u32 8450), .lit (.int .u32 12675), .lit (.int .u32 16900), .lit (.int .u32 21125), .lit (.int .u32 25350), .lit (.int .u32 29575), .lit (.int .u32 33800), .lit (.int .u32 38025), .lit (.int .u32 42250), .lit (.int .u32 46475), .lit (.int .u32 50700), .lit (.int .u32 54925), .lit (.int .u32 59150), .lit (.int .u32 63375)]
def laid_marline_fcs_stepsWide {H : Type} : DataW H := .agg [.lit (.int .u32 0), .lit (.int .u32 498536548), .lit (.int .u32 997073096), .lit (.int .u32 651767980), .lit (.int .u32 1994146192), .lit (.int .u32 1802195444), .lit (.int .u32 1303535960), .lit (.int .u32 1342533948), .lit (.int .u32 3988292384), .lit (.int .u32 4027552580), .lit (.int .u32 3604390888), .lit (.int .u32 3412177804), .lit (.int .u32 2607071920), .lit (.int .u32 2262029012), .lit (.int .u32 2685067896), .lit (.int .u32 3183342108)]

/-- 'marlinelaw11.FrameTells': WHATEVER THE INPUT: true; the input reads as it did. -/
def frameTellsSpec : ChangeSpec := { name := "frameTells", fn := fun _ => fun
  | [d1, d2, d3, d4] => { results := [.lit (.bool true)], args := [d1, d2, d3, d4] }
  | _ => none }
def frameTellsRow : OpenClaim := { program := "ytkakkligndejaaadoor", sum := "b27608b9368757b9c17c66bdebd231078c08802d5fe03f3357146ad5308dcfd8", func := "marline/marlinelaw11.FrameTells", spec := "frameTells", named := ["marline/fcs.stepsWide", "marline/fcs.steps"], apart := false, laid := [("marline/fcs.steps", laid_marline_fcs_steps), ("marline/fcs.stepsWide", laid_marline_fcs_stepsWide)] }
def FrameTellsSaid : Prop := frameTellsRow.holds Tryd.pinned (OpenSpec.ofChange frameTellsSpec)

/-- ITS FALSE NEIGHBOUR: 'it returns false'. Refute it at one input. -/
def frameTellsWrong : ChangeSpec := { name := "frameTells", fn := fun _ => fun
  | [d1, d2, d3, d4] => { results := [.lit (.bool false)], args := [d1, d2, d3, d4] }
  | _ => none }
def FrameTellsWrongFalsely : Prop := frameTellsRow.holds Tryd.pinned (OpenSpec.ofChange frameTellsWrong)

/-- 'marlinelaw11.FrameBack': WHATEVER THE INPUT: true; the input reads as it did. -/
def frameBackSpec : ChangeSpec := { name := "frameBack", fn := fun _ => fun
  | [d1, d2, d3, d4] => { results := [.lit (.bool true)], args := [d1, d2, d3, d4] }
  | _ => none }
def frameBackRow : OpenClaim := { program := "ytkakkligndejaaadoor", sum := "b27608b9368757b9c17c66bdebd231078c08802d5fe03f3357146ad5308dcfd8", func := "marline/marlinelaw11.FrameBack", spec := "frameBack", named := ["marline/fcs.stepsWide", "marline/fcs.steps"], apart := false, laid := [("marline/fcs.steps", laid_marline_fcs_steps), ("marline/fcs.stepsWide", laid_marline_fcs_stepsWide)] }
def FrameBackSaid : Prop := frameBackRow.holds Tryd.pinned (OpenSpec.ofChange frameBackSpec)

/-- ITS FALSE NEIGHBOUR: 'it returns false'. Refute it at one input. -/
def frameBackWrong : ChangeSpec := { name := "frameBack", fn := fun _ => fun
  | [d1, d2, d3, d4] => { results := [.lit (.bool false)], args := [d1, d2, d3, d4] }
  | _ => none }
def FrameBackWrongFalsely : Prop := frameBackRow.holds Tryd.pinned (OpenSpec.ofChange frameBackWrong)

/-- 'marlinelaw11.FrameSpoils': WHATEVER THE INPUT: true; the input reads as it did. -/
def frameSpoilsSpec : ChangeSpec := { name := "frameSpoils", fn := fun _ => fun
  | [d1, d2, d3, d4, d5] => { results := [.lit (.bool true)], args := [d1, d2, d3, d4, d5] }
  | _ => none }
def frameSpoilsRow : OpenClaim := { program := "ytkakkligndejaaadoor", sum := "b27608b9368757b9c17c66bdebd231078c08802d5fe03f3357146ad5308dcfd8", func := "marline/marlinelaw11.FrameSpoils", spec := "frameSpoils", named := ["marline/fcs.stepsWide", "marline/fcs.steps"], apart := false, laid := [("marline/fcs.steps", laid_marline_fcs_steps), ("marline/fcs.stepsWide", laid_marline_fcs_stepsWide)] }
def FrameSpoilsSaid : Prop := frameSpoilsRow.holds Tryd.pinned (OpenSpec.ofChange frameSpoilsSpec)

/-- ITS FALSE NEIGHBOUR: 'it returns false'. Refute it at one input. -/
def frameSpoilsWrong : ChangeSpec := { name := "frameSpoils", fn := fun _ => fun
  | [d1, d2, d3, d4, d5] => { results := [.lit (.bool false)], args := [d1, d2, d3, d4, d5] }
  | _ => none }
def FrameSpoilsWrongFalsely : Prop := frameSpoilsRow.holds Tryd.pinned (OpenSpec.ofChange frameSpoilsWrong)

/-- 'marlinelaw11.FrameParts': WHATEVER THE INPUT: true; the input reads as it did. -/
def framePartsSpec : ChangeSpec := { name := "frameParts", fn := fun _ => fun
  | [d1, d2] => { results := [.lit (.bool true)], args := [d1, d2] }
  | _ => none }
def framePartsRow : OpenClaim := { program := "ytkakkligndejaaadoor", sum := "b27608b9368757b9c17c66bdebd231078c08802d5fe03f3357146ad5308dcfd8", func := "marline/marlinelaw11.FrameParts", spec := "frameParts", named := ["marline/fcs.stepsWide", "marline/fcs.steps"], apart := false, laid := [("marline/fcs.steps", laid_marline_fcs_steps), ("marline/fcs.stepsWide", laid_marline_fcs_stepsWide)] }
def FramePartsSaid : Prop := framePartsRow.holds Tryd.pinned (OpenSpec.ofChange framePartsSpec)

/-- ITS FALSE NEIGHBOUR: 'it returns false'. Refute it at one input. -/
def framePartsWrong : ChangeSpec := { name := "frameParts", fn := fun _ => fun
  | [d1, d2] => { results := [.lit (.bool false)], args := [d1, d2] }
  | _ => none }
def FramePartsWrongFalsely : Prop := framePartsRow.holds Tryd.pinned (OpenSpec.ofChange framePartsWrong)

/- THE SECOND FORM. 'bulk': how many values and letters a reading holds, each counted each time it is reached (what is shared counts as often as it is met; a slice's spare places count too). A statement '..UptoSaid' is the law's where the arguments, and the package variables that the reading takes, are together of bulk at most 1048576: NARROWER than '..Said'. Prove '..Said' where nothing that the law and all that it calls make is longer than what came in: it says more and counts as full. Else prove '..UptoSaid'. A law counts once. -/
mutual
def uptoBulk {H : Type} : DataW H → Nat
  | .lit (.string bytes) => bytes.length + 1
  | .lit _ => 1
  | .nil => 1
  | .ptr d => uptoBulk d + 1
  | .slice elems spare => uptoBulkAll elems + uptoBulkAll spare + 1
  | .agg parts => uptoBulkAll parts + 1
  | .iface _ d => uptoBulk d + 1
  | .map entries => uptoBulkEntries entries + 1
  | .held _ => 1
def uptoBulkAll {H : Type} : List (DataW H) → Nat
  | [] => 0
  | d :: r => uptoBulk d + uptoBulkAll r
def uptoBulkEntries {H : Type} : List (Lit × DataW H) → Nat
  | [] => 0
  | x :: r => uptoBulkEntry x + uptoBulkEntries r
def uptoBulkEntry {H : Type} : Lit × DataW H → Nat
  | (.string bytes, d) => bytes.length + uptoBulk d + 1
  | (_, d) => uptoBulk d + 1
 end
def uptoSmall : (H : Type) → List (DataW H) → Bool := fun _ ds => decide (uptoBulkAll ds ≤ 1048576)
def OpenSpec.upto (s : _root_.Go.ChangeSpec) : _root_.Go.OpenSpec := { _root_.Go.OpenSpec.ofChange s with cond := some uptoSmall }

/-- 'marlinelaw11.FrameTells', WHERE WHAT IT READS IS OF BULK AT MOST 1048576: true; the input reads as it did. -/
def frameTellsUptoRow : OpenClaim := { program := "ytkakkligndejaaadoor", sum := "b27608b9368757b9c17c66bdebd231078c08802d5fe03f3357146ad5308dcfd8", func := "marline/marlinelaw11.FrameTells", spec := "frameTells", named := ["marline/fcs.stepsWide", "marline/fcs.steps"], apart := false, laid := [("marline/fcs.steps", laid_marline_fcs_steps), ("marline/fcs.stepsWide", laid_marline_fcs_stepsWide)], narrowed := true }
def FrameTellsUptoSaid : Prop := frameTellsUptoRow.holds Tryd.pinned (OpenSpec.upto frameTellsSpec)

/-- 'marlinelaw11.FrameBack', WHERE WHAT IT READS IS OF BULK AT MOST 1048576: true; the input reads as it did. -/
def frameBackUptoRow : OpenClaim := { program := "ytkakkligndejaaadoor", sum := "b27608b9368757b9c17c66bdebd231078c08802d5fe03f3357146ad5308dcfd8", func := "marline/marlinelaw11.FrameBack", spec := "frameBack", named := ["marline/fcs.stepsWide", "marline/fcs.steps"], apart := false, laid := [("marline/fcs.steps", laid_marline_fcs_steps), ("marline/fcs.stepsWide", laid_marline_fcs_stepsWide)], narrowed := true }
def FrameBackUptoSaid : Prop := frameBackUptoRow.holds Tryd.pinned (OpenSpec.upto frameBackSpec)

/-- 'marlinelaw11.FrameSpoils', WHERE WHAT IT READS IS OF BULK AT MOST 1048576: true; the input reads as it did. -/
def frameSpoilsUptoRow : OpenClaim := { program := "ytkakkligndejaaadoor", sum := "b27608b9368757b9c17c66bdebd231078c08802d5fe03f3357146ad5308dcfd8", func := "marline/marlinelaw11.FrameSpoils", spec := "frameSpoils", named := ["marline/fcs.stepsWide", "marline/fcs.steps"], apart := false, laid := [("marline/fcs.steps", laid_marline_fcs_steps), ("marline/fcs.stepsWide", laid_marline_fcs_stepsWide)], narrowed := true }
def FrameSpoilsUptoSaid : Prop := frameSpoilsUptoRow.holds Tryd.pinned (OpenSpec.upto frameSpoilsSpec)

/-- 'marlinelaw11.FrameParts', WHERE WHAT IT READS IS OF BULK AT MOST 1048576: true; the input reads as it did. -/
def framePartsUptoRow : OpenClaim := { program := "ytkakkligndejaaadoor", sum := "b27608b9368757b9c17c66bdebd231078c08802d5fe03f3357146ad5308dcfd8", func := "marline/marlinelaw11.FrameParts", spec := "frameParts", named := ["marline/fcs.stepsWide", "marline/fcs.steps"], apart := false, laid := [("marline/fcs.steps", laid_marline_fcs_steps), ("marline/fcs.stepsWide", laid_marline_fcs_stepsWide)], narrowed := true }
def FramePartsUptoSaid : Prop := framePartsUptoRow.holds Tryd.pinned (OpenSpec.upto framePartsSpec)

end Rows
end Go.Proofs.YtkakkligndejaaaDoor
