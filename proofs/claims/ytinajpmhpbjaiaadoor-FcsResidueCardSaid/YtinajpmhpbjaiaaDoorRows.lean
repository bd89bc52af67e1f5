/-
  NARROWER THAN 'FOR EVERY INPUT', by the rows' own cells (each row's printed sentence says how): FcsSums: laid · FcsMore: laid · FcsResidue: laid · FcsBursts: laid · FcsSums2: laid.
  DERIVED. THE GIVEN ROWS OF THIS SEAT. 5 by the template 'for every input the law returns true; each argument reads behind the call as it read before'; 0 by the template 'total and deterministic' (their statements: YtinajpmhpbjaiaaDoorTotals.lean).
  GIVEN WITH THE SEED: the statements are not yours to turn. If you find one false, say at which input.
  Laid BY PROGRAM, IN A SANDBOX (cutbox-rows.mjs): the forced cells as the released guide's own fill.sh prints them over the translation 3f0eae5729c1a301… (all of the seat's roots in one cut). By AI agents, Wed Nov 11 2026. No macro, syntax, notation, axiom, sorry.
-/
import Derived.Test.YtinajpmhpbjaiaaDoorChecked
import GoSem.Claim
import GoSem.ClaimJoined
import GoSem.ClaimMapViews
import Derived.JoinedTies
import Derived.KernelRfl
namespace Go.Proofs.YtinajpmhpbjaiaaDoor
/- THE CELL 'sum', in the pinned program and in every row, IS THE sha256 OF THE DUMP (.gsa) THAT YtinajpmhpbjaiaaDoorProg.lean LOADS. Nothing in Lean hashes anything: it is a label: what it is worth is what the hold of that sum in a sandbox is worth. -/
noncomputable def Tryd.pinned : Pinned := { name := "ytinajpmhpbjaiaadoor", sum := "3f0eae5729c1a301e93b2433dd6ea7818c62b67c07accc04e4f340d107c446d6", checked := Tryd.checked }
namespace Rows
def none {H : Type} : Left H := { results := [], args := [] }

/- WHAT THE LISTED PACKAGE-LEVEL VARIABLES READ AS WHEN THE CALL BEGINS. Each datum BY PROGRAM (the guide's laid-datum.mjs) off the statement by which the dump's own 'gosem.cut.vars' lays the variable. In a bare row this is a premise. The card (YtinajpmhpbjaiaaDoorCards.lean) ties it to the program's text. -/
def laid_marline_fcs_steps {H : Type} : DataW H := .agg [.lit (.int .u32 0), .lit (.int .u32 4225), .lit (.int .u32 8450), .lit (.int .u32 12675), .lit (.int .u32 16900), .lit (.int .u32 21125), .lit (.int .u32 25350), .lit (.int .u32 29575), .lit (.int .u32 33800), .lit (.int .u32 38025), .lit (.int .u32 42250), .lit (.int .u32 46475), .lit (.int .u32 50700), .lit (.int .u32 54925), .lit (.int .u32 59150), .lit (.int .u32 63375)]
def laid_marline_fcs_stepsWide {H : Type} : DataW H := .agg [.lit (.int .u32 0), .lit (.int .u32 498536548), .lit (.int .u32 997073096), .lit (.int .u32 651767980), .lit (.int .u32 1994146192), .lit (.int .u32 1802195444), .lit (.int .u32 1303535960), .lit (.int .u32 1342533948), .lit (.int .u32 3988292384), .lit (.int .u32 4027552580), .lit (.int .u32 3604390888), .lit (.int .u32 3412177804), .lit (.int .u32 2607071920), .lit (.int .u32 2262029012), .lit (.int .u32 2685067896), .lit (.int .u32 3183342108)]

/-- 'marlinelaw02.FcsSums': WHATEVER THE INPUT: true; the input reads as it did. -/
def fcsSumsSpec : ChangeSpec := { name := "fcsSums", fn := fun _ => fun
  | [d1, d2] => { results := [.lit (.bool true)], args := [d1, d2] }
  | _ => none }
def fcsSumsRow : OpenClaim := { program := "ytinajpmhpbjaiaadoor", sum := "3f0eae5729c1a301e93b2433dd6ea7818c62b67c07accc04e4f340d107c446d6", func := "marline/marlinelaw02.FcsSums", spec := "fcsSums", named := ["marline/fcs.stepsWide", "marline/fcs.steps"], apart := false, laid := [("marline/fcs.steps", laid_marline_fcs_steps), ("marline/fcs.stepsWide", laid_marline_fcs_stepsWide)] }
def FcsSumsSaid : Prop := fcsSumsRow.holds Tryd.pinned (OpenSpec.ofChange fcsSumsSpec)

/-- ITS FALSE NEIGHBOUR: 'it returns false'. Refute it at one input. -/
def fcsSumsWrong : ChangeSpec := { name := "fcsSums", fn := fun _ => fun
  | [d1, d2] => { results := [.lit (.bool false)], args := [d1, d2] }
  | _ => none }
def FcsSumsWrongFalsely : Prop := fcsSumsRow.holds Tryd.pinned (OpenSpec.ofChange fcsSumsWrong)

/-- 'marlinelaw02.FcsMore': WHATEVER THE INPUT: true; the input reads as it did. -/
def fcsMoreSpec : ChangeSpec := { name := "fcsMore", fn := fun _ => fun
  | [d1, d2, d3, d4] => { results := [.lit (.bool true)], args := [d1, d2, d3, d4] }
  | _ => none }
def fcsMoreRow : OpenClaim := { program := "ytinajpmhpbjaiaadoor", sum := "3f0eae5729c1a301e93b2433dd6ea7818c62b67c07accc04e4f340d107c446d6", func := "marline/marlinelaw02.FcsMore", spec := "fcsMore", named := ["marline/fcs.stepsWide", "marline/fcs.steps"], apart := false, laid := [("marline/fcs.steps", laid_marline_fcs_steps), ("marline/fcs.stepsWide", laid_marline_fcs_stepsWide)] }
def FcsMoreSaid : Prop := fcsMoreRow.holds Tryd.pinned (OpenSpec.ofChange fcsMoreSpec)

/-- ITS FALSE NEIGHBOUR: 'it returns false'. Refute it at one input. -/
def fcsMoreWrong : ChangeSpec := { name := "fcsMore", fn := fun _ => fun
  | [d1, d2, d3, d4] => { results := [.lit (.bool false)], args := [d1, d2, d3, d4] }
  | _ => none }
def FcsMoreWrongFalsely : Prop := fcsMoreRow.holds Tryd.pinned (OpenSpec.ofChange fcsMoreWrong)

/-- 'marlinelaw02.FcsResidue': WHATEVER THE INPUT: true; the input reads as it did. -/
def fcsResidueSpec : ChangeSpec := { name := "fcsResidue", fn := fun _ => fun
  | [d1, d2, d3] => { results := [.lit (.bool true)], args := [d1, d2, d3] }
  | _ => none }
def fcsResidueRow : OpenClaim := { program := "ytinajpmhpbjaiaadoor", sum := "3f0eae5729c1a301e93b2433dd6ea7818c62b67c07accc04e4f340d107c446d6", func := "marline/marlinelaw02.FcsResidue", spec := "fcsResidue", named := ["marline/fcs.stepsWide", "marline/fcs.steps"], apart := false, laid := [("marline/fcs.steps", laid_marline_fcs_steps), ("marline/fcs.stepsWide", laid_marline_fcs_stepsWide)] }
def FcsResidueSaid : Prop := fcsResidueRow.holds Tryd.pinned (OpenSpec.ofChange fcsResidueSpec)

/-- ITS FALSE NEIGHBOUR: 'it returns false'. Refute it at one input. -/
def fcsResidueWrong : ChangeSpec := { name := "fcsResidue", fn := fun _ => fun
  | [d1, d2, d3] => { results := [.lit (.bool false)], args := [d1, d2, d3] }
  | _ => none }
def FcsResidueWrongFalsely : Prop := fcsResidueRow.holds Tryd.pinned (OpenSpec.ofChange fcsResidueWrong)

/-- 'marlinelaw02.FcsBursts': WHATEVER THE INPUT: true; the input reads as it did. -/
def fcsBurstsSpec : ChangeSpec := { name := "fcsBursts", fn := fun _ => fun
  | [d1, d2, d3, d4] => { results := [.lit (.bool true)], args := [d1, d2, d3, d4] }
  | _ => none }
def fcsBurstsRow : OpenClaim := { program := "ytinajpmhpbjaiaadoor", sum := "3f0eae5729c1a301e93b2433dd6ea7818c62b67c07accc04e4f340d107c446d6", func := "marline/marlinelaw02.FcsBursts", spec := "fcsBursts", named := ["marline/fcs.stepsWide", "marline/fcs.steps"], apart := false, laid := [("marline/fcs.steps", laid_marline_fcs_steps), ("marline/fcs.stepsWide", laid_marline_fcs_stepsWide)] }
def FcsBurstsSaid : Prop := fcsBurstsRow.holds Tryd.pinned (OpenSpec.ofChange fcsBurstsSpec)

/-- ITS FALSE NEIGHBOUR: 'it returns false'. Refute it at one input. -/
def fcsBurstsWrong : ChangeSpec := { name := "fcsBursts", fn := fun _ => fun
  | [d1, d2, d3, d4] => { results := [.lit (.bool false)], args := [d1, d2, d3, d4] }
  | _ => none }
def FcsBurstsWrongFalsely : Prop := fcsBurstsRow.holds Tryd.pinned (OpenSpec.ofChange fcsBurstsWrong)

/-- 'marlinelaw02.FcsSums2': WHATEVER THE INPUT: true; the input reads as it did. -/
def fcsSums2Spec : ChangeSpec := { name := "fcsSums2", fn := fun _ => fun
  | [d1, d2, d3] => { results := [.lit (.bool true)], args := [d1, d2, d3] }
  | _ => none }
def fcsSums2Row : OpenClaim := { program := "ytinajpmhpbjaiaadoor", sum := "3f0eae5729c1a301e93b2433dd6ea7818c62b67c07accc04e4f340d107c446d6", func := "marline/marlinelaw02.FcsSums2", spec := "fcsSums2", named := ["marline/fcs.stepsWide", "marline/fcs.steps"], apart := false, laid := [("marline/fcs.steps", laid_marline_fcs_steps), ("marline/fcs.stepsWide", laid_marline_fcs_stepsWide)] }
def FcsSums2Said : Prop := fcsSums2Row.holds Tryd.pinned (OpenSpec.ofChange fcsSums2Spec)

/-- ITS FALSE NEIGHBOUR: 'it returns false'. Refute it at one input. -/
def fcsSums2Wrong : ChangeSpec := { name := "fcsSums2", fn := fun _ => fun
  | [d1, d2, d3] => { results := [.lit (.bool false)], args := [d1, d2, d3] }
  | _ => none }
def FcsSums2WrongFalsely : Prop := fcsSums2Row.holds Tryd.pinned (OpenSpec.ofChange fcsSums2Wrong)

/- THE SECOND FORM. 'bulk': how many values and letters a reading holds, each counted each time it is reached (what is shared counts as often as it is met; a slice's spare places count too). A statement '..UptoSaid' is the law's where the arguments, and the package variables that the reading takes, are together of bulk at most 1048576: NARROWER than '..Said'. Prove '..Said' where nothing that the law and all that it calls make is longer than what came in: it says more and counts as full. Else prove '..UptoSaid'. A law counts once. -/
mutual
def uptoBulk {H : Type} : DataW H → Nat
  | .lit (.string bytes) => bytes.length + 1
  | .lit _ => 1
  | .nil => 1
  | .ptr d => uptoBulk d + 1
  | .slice elems spare => uptoBulkAll elems + uptoBulkAll spare + 1
  | .agg parts => uptoBulkAll parts + 1
  | .iface _ d => uptoBulk d + 1
  | .map entries => uptoBulkEntries entries + 1
  | .held _ => 1
def uptoBulkAll {H : Type} : List (DataW H) → Nat
  | [] => 0
  | d :: r => uptoBulk d + uptoBulkAll r
def uptoBulkEntries {H : Type} : List (Lit × DataW H) → Nat
  | [] => 0
  | x :: r => uptoBulkEntry x + uptoBulkEntries r
def uptoBulkEntry {H : Type} : Lit × DataW H → Nat
  | (.string bytes, d) => bytes.length + uptoBulk d + 1
  | (_, d) => uptoBulk d + 1
 end
def uptoSmall : (H : Type) → List (DataW H) → Bool := fun _ ds => decide (uptoBulkAll ds ≤ 1048576)
def OpenSpec.upto (s : _root_.Go.ChangeSpec) : _root_.Go.OpenSpec := { _root_.Go.OpenSpec.ofChange s with cond := some uptoSmall }

/-- 'marlinelaw02.FcsSums', WHERE WHAT IT READS IS OF BULK AT MOST 1048576: true; the input reads as it did. -/
def fcsSumsUptoRow : OpenClaim := { program := "ytinajpmhpbjaiaadoor", sum := "3f0eae5729c1a301e93b2433dd6ea7818c62b67c07accc04e4f340d107c446d6", func := "marline/marlinelaw02.FcsSums", spec := "fcsSums", named := ["marline/fcs.stepsWide", "marline/fcs.steps"], apart := false, laid := [("marline/fcs.steps", laid_marline_fcs_steps), ("marline/fcs.stepsWide", laid_marline_fcs_stepsWide)], narrowed := true }
def FcsSumsUptoSaid : Prop := fcsSumsUptoRow.holds Tryd.pinned (OpenSpec.upto fcsSumsSpec)

/-- 'marlinelaw02.FcsMore', WHERE WHAT IT READS IS OF BULK AT MOST 1048576: true; the input reads as it did. -/
def fcsMoreUptoRow : OpenClaim := { program := "ytinajpmhpbjaiaadoor", sum := "3f0eae5729c1a301e93b2433dd6ea7818c62b67c07accc04e4f340d107c446d6", func := "marline/marlinelaw02.FcsMore", spec := "fcsMore", named := ["marline/fcs.stepsWide", "marline/fcs.steps"], apart := false, laid := [("marline/fcs.steps", laid_marline_fcs_steps), ("marline/fcs.stepsWide", laid_marline_fcs_stepsWide)], narrowed := true }
def FcsMoreUptoSaid : Prop := fcsMoreUptoRow.holds Tryd.pinned (OpenSpec.upto fcsMoreSpec)

/-- 'marlinelaw02.FcsResidue', WHERE WHAT IT READS IS OF BULK AT MOST 1048576: true; the input reads as it did. -/
def fcsResidueUptoRow : OpenClaim := { program := "ytinajpmhpbjaiaadoor", sum := "3f0eae5729c1a301e93b2433dd6ea7818c62b67c07accc04e4f340d107c446d6", func := "marline/marlinelaw02.FcsResidue", spec := "fcsResidue", named := ["marline/fcs.stepsWide", "marline/fcs.steps"], apart := false, laid := [("marline/fcs.steps", laid_marline_fcs_steps), ("marline/fcs.stepsWide", laid_marline_fcs_stepsWide)], narrowed := true }
def FcsResidueUptoSaid : Prop := fcsResidueUptoRow.holds Tryd.pinned (OpenSpec.upto fcsResidueSpec)

/-- 'marlinelaw02.FcsBursts', WHERE WHAT IT READS IS OF BULK AT MOST 1048576: true; the input reads as it did. -/
def fcsBurstsUptoRow : OpenClaim := { program := "ytinajpmhpbjaiaadoor", sum := "3f0eae5729c1a301e93b2433dd6ea7818c62b67c07accc04e4f340d107c446d6", func := "marline/marlinelaw02.FcsBursts", spec := "fcsBursts", named := ["marline/fcs.stepsWide", "marline/fcs.steps"], apart := false, laid := [("marline/fcs.steps", laid_marline_fcs_steps), ("marline/fcs.stepsWide", laid_marline_fcs_stepsWide)], narrowed := true }
def FcsBurstsUptoSaid : Prop := fcsBurstsUptoRow.holds Tryd.pinned (OpenSpec.upto fcsBurstsSpec)

/-- 'marlinelaw02.FcsSums2', WHERE WHAT IT READS IS OF BULK AT MOST 1048576: true; the input reads as it did. -/
def fcsSums2UptoRow : OpenClaim := { program := "ytinajpmhpbjaiaadoor", sum := "3f0eae5729c1a301e93b2433dd6ea7818c62b67c07accc04e4f340d107c446d6", func := "marline/marlinelaw02.FcsSums2", spec := "fcsSums2", named := ["marline/fcs.stepsWide", "marline/fcs.steps"], apart := false, laid := [("marline/fcs.steps", laid_marline_fcs_steps), ("marline/fcs.stepsWide", laid_marline_fcs_stepsWide)], narrowed := true }
def FcsSums2UptoSaid : Prop := fcsSums2UptoRow.holds Tryd.pinned (OpenSpec.upto fcsSums2Spec)

end Rows
end Go.Proofs.YtinajpmhpbjaiaaDoor
