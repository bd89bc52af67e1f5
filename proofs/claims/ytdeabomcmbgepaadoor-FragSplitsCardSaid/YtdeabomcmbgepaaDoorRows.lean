/-
  NARROWER THAN 'FOR EVERY INPUT', by the rows' own cells (each row's printed sentence says how): FragTells: laid · FragBack: laid · FragSplits: laid · FragThere: laid · FragLoss: laid.
  DERIVED. THE GIVEN ROWS OF THIS SEAT. 5 by the template 'for every input the law returns true; each argument reads behind the call as it read before'; 0 by the template 'total and deterministic' (their statements: YtdeabomcmbgepaaDoorTotals.lean).
  GIVEN WITH THE SEED: the statements are not yours to turn. If you find one false, say at which input.
  Laid BY PROGRAM, IN A SANDBOX (cutbox-rows.mjs): the forced cells as the released guide's own fill.sh prints them over the translation c36034014eb72503… (all of the seat's roots in one cut). By AI agents, Wed Nov 11 2026. No macro, syntax, notation, axiom, sorry.
-/
import Derived.Test.YtdeabomcmbgepaaDoorChecked
import GoSem.Claim
import GoSem.ClaimJoined
import GoSem.ClaimMapViews
import Derived.JoinedTies
import Derived.KernelRfl
namespace Go.Proofs.YtdeabomcmbgepaaDoor
/- THE CELL 'sum', in the pinned program and in every row, IS THE sha256 OF THE DUMP (.gsa) THAT YtdeabomcmbgepaaDoorProg.lean LOADS. Nothing in Lean hashes anything: it is a label: what it is worth is what the hold of that sum in a sandbox is worth. -/
noncomputable def Tryd.pinned : Pinned := { name := "ytdeabomcmbgepaadoor", sum := "c36034014eb725031e5899f390d753c43be72cc2e08786e293638a7a1f882e31", checked := Tryd.checked }
namespace Rows
def none {H : Type} : Left H := { results := [], args := [] }

/- WHAT THE LISTED PACKAGE-LEVEL VARIABLES READ AS WHEN THE CALL BEGINS. Each datum BY PROGRAM (the guide's laid-datum.mjs) off the statement by which the dump's own 'gosem.cut.vars' lays the variable. In a bare row this is a premise. The card (YtdeabomcmbgepaaDoorCards.lean) ties it to the program's text. -/
def laid_marline_frag_shapes {H : Type} : DataW H := .agg [.agg [.lit (.int .i64 2), .lit (.int .i64 4096), .lit (.int .u8 48)], .agg [.lit (.int .i64 4), .lit (.int .i64 16777216), .lit (.int .u8 63)]]

/-- 'marlinelaw23.FragTells': WHATEVER THE INPUT: true; the input reads as it did. -/
def fragTellsSpec : ChangeSpec := { name := "fragTells", fn := fun _ => fun
  | [d1, d2, d3] => { results := [.lit (.bool true)], args := [d1, d2, d3] }
  | _ => none }
def fragTellsRow : OpenClaim := { program := "ytdeabomcmbgepaadoor", sum := "c36034014eb725031e5899f390d753c43be72cc2e08786e293638a7a1f882e31", func := "marline/marlinelaw23.FragTells", spec := "fragTells", named := ["marline/frag.shapes"], apart := false, laid := [("marline/frag.shapes", laid_marline_frag_shapes)] }
def FragTellsSaid : Prop := fragTellsRow.holds Tryd.pinned (OpenSpec.ofChange fragTellsSpec)

/-- ITS FALSE NEIGHBOUR: 'it returns false'. Refute it at one input. -/
def fragTellsWrong : ChangeSpec := { name := "fragTells", fn := fun _ => fun
  | [d1, d2, d3] => { results := [.lit (.bool false)], args := [d1, d2, d3] }
  | _ => none }
def FragTellsWrongFalsely : Prop := fragTellsRow.holds Tryd.pinned (OpenSpec.ofChange fragTellsWrong)

/-- 'marlinelaw23.FragBack': WHATEVER THE INPUT: true; the input reads as it did. -/
def fragBackSpec : ChangeSpec := { name := "fragBack", fn := fun _ => fun
  | [d1, d2, d3] => { results := [.lit (.bool true)], args := [d1, d2, d3] }
  | _ => none }
def fragBackRow : OpenClaim := { program := "ytdeabomcmbgepaadoor", sum := "c36034014eb725031e5899f390d753c43be72cc2e08786e293638a7a1f882e31", func := "marline/marlinelaw23.FragBack", spec := "fragBack", named := ["marline/frag.shapes"], apart := false, laid := [("marline/frag.shapes", laid_marline_frag_shapes)] }
def FragBackSaid : Prop := fragBackRow.holds Tryd.pinned (OpenSpec.ofChange fragBackSpec)

/-- ITS FALSE NEIGHBOUR: 'it returns false'. Refute it at one input. -/
def fragBackWrong : ChangeSpec := { name := "fragBack", fn := fun _ => fun
  | [d1, d2, d3] => { results := [.lit (.bool false)], args := [d1, d2, d3] }
  | _ => none }
def FragBackWrongFalsely : Prop := fragBackRow.holds Tryd.pinned (OpenSpec.ofChange fragBackWrong)

/-- 'marlinelaw23.FragSplits': WHATEVER THE INPUT: true; the input reads as it did. -/
def fragSplitsSpec : ChangeSpec := { name := "fragSplits", fn := fun _ => fun
  | [d1, d2, d3, d4, d5] => { results := [.lit (.bool true)], args := [d1, d2, d3, d4, d5] }
  | _ => none }
def fragSplitsRow : OpenClaim := { program := "ytdeabomcmbgepaadoor", sum := "c36034014eb725031e5899f390d753c43be72cc2e08786e293638a7a1f882e31", func := "marline/marlinelaw23.FragSplits", spec := "fragSplits", unfollowed := true, recurses := true, named := ["marline/frag.shapes"], apart := false, laid := [("marline/frag.shapes", laid_marline_frag_shapes)] }
def FragSplitsSaid : Prop := fragSplitsRow.holds Tryd.pinned (OpenSpec.ofChange fragSplitsSpec)

/-- ITS FALSE NEIGHBOUR: 'it returns false'. Refute it at one input. -/
def fragSplitsWrong : ChangeSpec := { name := "fragSplits", fn := fun _ => fun
  | [d1, d2, d3, d4, d5] => { results := [.lit (.bool false)], args := [d1, d2, d3, d4, d5] }
  | _ => none }
def FragSplitsWrongFalsely : Prop := fragSplitsRow.holds Tryd.pinned (OpenSpec.ofChange fragSplitsWrong)

/-- 'marlinelaw23.FragThere': WHATEVER THE INPUT: true; the input reads as it did. -/
def fragThereSpec : ChangeSpec := { name := "fragThere", fn := fun _ => fun
  | [d1, d2, d3, d4] => { results := [.lit (.bool true)], args := [d1, d2, d3, d4] }
  | _ => none }
def fragThereRow : OpenClaim := { program := "ytdeabomcmbgepaadoor", sum := "c36034014eb725031e5899f390d753c43be72cc2e08786e293638a7a1f882e31", func := "marline/marlinelaw23.FragThere", spec := "fragThere", unfollowed := true, recurses := true, named := ["marline/frag.shapes"], apart := false, laid := [("marline/frag.shapes", laid_marline_frag_shapes)] }
def FragThereSaid : Prop := fragThereRow.holds Tryd.pinned (OpenSpec.ofChange fragThereSpec)

/-- ITS FALSE NEIGHBOUR: 'it returns false'. Refute it at one input. -/
def fragThereWrong : ChangeSpec := { name := "fragThere", fn := fun _ => fun
  | [d1, d2, d3, d4] => { results := [.lit (.bool false)], args := [d1, d2, d3, d4] }
  | _ => none }
def FragThereWrongFalsely : Prop := fragThereRow.holds Tryd.pinned (OpenSpec.ofChange fragThereWrong)

/-- 'marlinelaw23.FragLoss': WHATEVER THE INPUT: true; the input reads as it did. -/
def fragLossSpec : ChangeSpec := { name := "fragLoss", fn := fun _ => fun
  | [d1, d2, d3, d4, d5] => { results := [.lit (.bool true)], args := [d1, d2, d3, d4, d5] }
  | _ => none }
def fragLossRow : OpenClaim := { program := "ytdeabomcmbgepaadoor", sum := "c36034014eb725031e5899f390d753c43be72cc2e08786e293638a7a1f882e31", func := "marline/marlinelaw23.FragLoss", spec := "fragLoss", unfollowed := true, recurses := true, named := ["marline/frag.shapes"], apart := false, laid := [("marline/frag.shapes", laid_marline_frag_shapes)] }
def FragLossSaid : Prop := fragLossRow.holds Tryd.pinned (OpenSpec.ofChange fragLossSpec)

/-- ITS FALSE NEIGHBOUR: 'it returns false'. Refute it at one input. -/
def fragLossWrong : ChangeSpec := { name := "fragLoss", fn := fun _ => fun
  | [d1, d2, d3, d4, d5] => { results := [.lit (.bool false)], args := [d1, d2, d3, d4, d5] }
  | _ => none }
def FragLossWrongFalsely : Prop := fragLossRow.holds Tryd.pinned (OpenSpec.ofChange fragLossWrong)

/- THE SECOND FORM. 'bulk': how many values and letters a reading holds, each counted each time it is reached (what is shared counts as often as it is met; a slice's spare places count too). A statement '..UptoSaid' is the law's where the arguments, and the package variables that the reading takes, are together of bulk at most 1048576: NARROWER than '..Said'. Prove '..Said' where nothing that the law and all that it calls make is longer than what came in: it says more and counts as full. Else prove '..UptoSaid'. A law counts once. -/
mutual
def uptoBulk {H : Type} : DataW H → Nat
  | .lit (.string bytes) => bytes.length + 1
  | .lit _ => 1
  | .nil => 1
  | .ptr d => uptoBulk d + 1
  | .slice elems spare => uptoBulkAll elems + uptoBulkAll spare + 1
  | .agg parts => uptoBulkAll parts + 1
  | .iface _ d => uptoBulk d + 1
  | .map entries => uptoBulkEntries entries + 1
  | .held _ => 1
def uptoBulkAll {H : Type} : List (DataW H) → Nat
  | [] => 0
  | d :: r => uptoBulk d + uptoBulkAll r
def uptoBulkEntries {H : Type} : List (Lit × DataW H) → Nat
  | [] => 0
  | x :: r => uptoBulkEntry x + uptoBulkEntries r
def uptoBulkEntry {H : Type} : Lit × DataW H → Nat
  | (.string bytes, d) => bytes.length + uptoBulk d + 1
  | (_, d) => uptoBulk d + 1
 end
def uptoSmall : (H : Type) → List (DataW H) → Bool := fun _ ds => decide (uptoBulkAll ds ≤ 1048576)
def OpenSpec.upto (s : _root_.Go.ChangeSpec) : _root_.Go.OpenSpec := { _root_.Go.OpenSpec.ofChange s with cond := some uptoSmall }

/-- 'marlinelaw23.FragTells', WHERE WHAT IT READS IS OF BULK AT MOST 1048576: true; the input reads as it did. -/
def fragTellsUptoRow : OpenClaim := { program := "ytdeabomcmbgepaadoor", sum := "c36034014eb725031e5899f390d753c43be72cc2e08786e293638a7a1f882e31", func := "marline/marlinelaw23.FragTells", spec := "fragTells", named := ["marline/frag.shapes"], apart := false, laid := [("marline/frag.shapes", laid_marline_frag_shapes)], narrowed := true }
def FragTellsUptoSaid : Prop := fragTellsUptoRow.holds Tryd.pinned (OpenSpec.upto fragTellsSpec)

/-- 'marlinelaw23.FragBack', WHERE WHAT IT READS IS OF BULK AT MOST 1048576: true; the input reads as it did. -/
def fragBackUptoRow : OpenClaim := { program := "ytdeabomcmbgepaadoor", sum := "c36034014eb725031e5899f390d753c43be72cc2e08786e293638a7a1f882e31", func := "marline/marlinelaw23.FragBack", spec := "fragBack", named := ["marline/frag.shapes"], apart := false, laid := [("marline/frag.shapes", laid_marline_frag_shapes)], narrowed := true }
def FragBackUptoSaid : Prop := fragBackUptoRow.holds Tryd.pinned (OpenSpec.upto fragBackSpec)

/-- 'marlinelaw23.FragSplits', WHERE WHAT IT READS IS OF BULK AT MOST 1048576: true; the input reads as it did. -/
def fragSplitsUptoRow : OpenClaim := { program := "ytdeabomcmbgepaadoor", sum := "c36034014eb725031e5899f390d753c43be72cc2e08786e293638a7a1f882e31", func := "marline/marlinelaw23.FragSplits", spec := "fragSplits", unfollowed := true, recurses := true, named := ["marline/frag.shapes"], apart := false, laid := [("marline/frag.shapes", laid_marline_frag_shapes)], narrowed := true }
def FragSplitsUptoSaid : Prop := fragSplitsUptoRow.holds Tryd.pinned (OpenSpec.upto fragSplitsSpec)

/-- 'marlinelaw23.FragThere', WHERE WHAT IT READS IS OF BULK AT MOST 1048576: true; the input reads as it did. -/
def fragThereUptoRow : OpenClaim := { program := "ytdeabomcmbgepaadoor", sum := "c36034014eb725031e5899f390d753c43be72cc2e08786e293638a7a1f882e31", func := "marline/marlinelaw23.FragThere", spec := "fragThere", unfollowed := true, recurses := true, named := ["marline/frag.shapes"], apart := false, laid := [("marline/frag.shapes", laid_marline_frag_shapes)], narrowed := true }
def FragThereUptoSaid : Prop := fragThereUptoRow.holds Tryd.pinned (OpenSpec.upto fragThereSpec)

/-- 'marlinelaw23.FragLoss', WHERE WHAT IT READS IS OF BULK AT MOST 1048576: true; the input reads as it did. -/
def fragLossUptoRow : OpenClaim := { program := "ytdeabomcmbgepaadoor", sum := "c36034014eb725031e5899f390d753c43be72cc2e08786e293638a7a1f882e31", func := "marline/marlinelaw23.FragLoss", spec := "fragLoss", unfollowed := true, recurses := true, named := ["marline/frag.shapes"], apart := false, laid := [("marline/frag.shapes", laid_marline_frag_shapes)], narrowed := true }
def FragLossUptoSaid : Prop := fragLossUptoRow.holds Tryd.pinned (OpenSpec.upto fragLossSpec)

end Rows
end Go.Proofs.YtdeabomcmbgepaaDoor
