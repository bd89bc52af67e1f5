/-
  No cell of these rows narrows 'for every input' (looked for: loops, veiled, ifaces, maps, wideKeys, modest, calm, conditions, laid).
  DERIVED. THE GIVEN ROWS OF THIS SEAT. 3 by the template 'for every input the law returns true; each argument reads behind the call as it read before'; 0 by the template 'total and deterministic' (their statements: YtidkddffkhbaaaaTotals.lean).
  GIVEN WITH THE SEED: the statements are not yours to turn. If you find one false, say at which input.
  Laid BY PROGRAM, IN A SANDBOX (cutbox-rows.mjs): the forced cells as the released guide's own fill.sh prints them over the translation be03143ffb0adbf4… (all of the seat's roots in one cut). By AI agents, Wed Nov 11 2026. No macro, syntax, notation, axiom, sorry.
-/
import Derived.Test.YtidkddffkhbaaaaChecked
import GoSem.Claim
import GoSem.ClaimJoined
import GoSem.ClaimMapViews
import Derived.JoinedTies
import Derived.KernelRfl
namespace Go.Proofs.Ytidkddffkhbaaaa
/- THE CELL 'sum', in the pinned program and in every row, IS THE sha256 OF THE DUMP (.gsa) THAT YtidkddffkhbaaaaProg.lean LOADS. Nothing in Lean hashes anything: it is a label: what it is worth is what the hold of that sum in a sandbox is worth. -/
noncomputable def Try.pinned : Pinned := { name := "ytidkddffkhbaaaa", sum := "be03143ffb0adbf4d38526bf337e64bffa4fd9a6627feb4d3522c15509a9d848", checked := Try.checked }
namespace Rows
def none {H : Type} : Left H := { results := [], args := [] }

/-- 'marlinelaw03.AccmTells': WHATEVER THE INPUT: true; the input reads as it did. -/
def accmTellsSpec : ChangeSpec := { name := "accmTells", fn := fun _ => fun
  | [d1, d2] => { results := [.lit (.bool true)], args := [d1, d2] }
  | _ => none }
def accmTellsRow : OpenClaim := { program := "ytidkddffkhbaaaa", sum := "be03143ffb0adbf4d38526bf337e64bffa4fd9a6627feb4d3522c15509a9d848", func := "marline/marlinelaw03.AccmTells", spec := "accmTells", apart := false }
def AccmTellsSaid : Prop := accmTellsRow.holds Try.pinned (OpenSpec.ofChange accmTellsSpec)

/-- ITS FALSE NEIGHBOUR: 'it returns false'. Refute it at one input. -/
def accmTellsWrong : ChangeSpec := { name := "accmTells", fn := fun _ => fun
  | [d1, d2] => { results := [.lit (.bool false)], args := [d1, d2] }
  | _ => none }
def AccmTellsWrongFalsely : Prop := accmTellsRow.holds Try.pinned (OpenSpec.ofChange accmTellsWrong)

/-- 'marlinelaw03.AccmBack': WHATEVER THE INPUT: true; the input reads as it did. -/
def accmBackSpec : ChangeSpec := { name := "accmBack", fn := fun _ => fun
  | [d1, d2] => { results := [.lit (.bool true)], args := [d1, d2] }
  | _ => none }
def accmBackRow : OpenClaim := { program := "ytidkddffkhbaaaa", sum := "be03143ffb0adbf4d38526bf337e64bffa4fd9a6627feb4d3522c15509a9d848", func := "marline/marlinelaw03.AccmBack", spec := "accmBack", apart := false }
def AccmBackSaid : Prop := accmBackRow.holds Try.pinned (OpenSpec.ofChange accmBackSpec)

/-- ITS FALSE NEIGHBOUR: 'it returns false'. Refute it at one input. -/
def accmBackWrong : ChangeSpec := { name := "accmBack", fn := fun _ => fun
  | [d1, d2] => { results := [.lit (.bool false)], args := [d1, d2] }
  | _ => none }
def AccmBackWrongFalsely : Prop := accmBackRow.holds Try.pinned (OpenSpec.ofChange accmBackWrong)

/-- 'marlinelaw03.AccmWithin': WHATEVER THE INPUT: true; the input reads as it did. -/
def accmWithinSpec : ChangeSpec := { name := "accmWithin", fn := fun _ => fun
  | [d1, d2, d3] => { results := [.lit (.bool true)], args := [d1, d2, d3] }
  | _ => none }
def accmWithinRow : OpenClaim := { program := "ytidkddffkhbaaaa", sum := "be03143ffb0adbf4d38526bf337e64bffa4fd9a6627feb4d3522c15509a9d848", func := "marline/marlinelaw03.AccmWithin", spec := "accmWithin", apart := false }
def AccmWithinSaid : Prop := accmWithinRow.holds Try.pinned (OpenSpec.ofChange accmWithinSpec)

/-- ITS FALSE NEIGHBOUR: 'it returns false'. Refute it at one input. -/
def accmWithinWrong : ChangeSpec := { name := "accmWithin", fn := fun _ => fun
  | [d1, d2, d3] => { results := [.lit (.bool false)], args := [d1, d2, d3] }
  | _ => none }
def AccmWithinWrongFalsely : Prop := accmWithinRow.holds Try.pinned (OpenSpec.ofChange accmWithinWrong)

/- THE SECOND FORM. 'bulk': how many values and letters a reading holds, each counted each time it is reached (what is shared counts as often as it is met; a slice's spare places count too). A statement '..UptoSaid' is the law's where the arguments, and the package variables that the reading takes, are together of bulk at most 1048576: NARROWER than '..Said'. Prove '..Said' where nothing that the law and all that it calls make is longer than what came in: it says more and counts as full. Else prove '..UptoSaid'. A law counts once. -/
mutual
def uptoBulk {H : Type} : DataW H → Nat
  | .lit (.string bytes) => bytes.length + 1
  | .lit _ => 1
  | .nil => 1
  | .ptr d => uptoBulk d + 1
  | .slice elems spare => uptoBulkAll elems + uptoBulkAll spare + 1
  | .agg parts => uptoBulkAll parts + 1
  | .iface _ d => uptoBulk d + 1
  | .map entries => uptoBulkEntries entries + 1
  | .held _ => 1
def uptoBulkAll {H : Type} : List (DataW H) → Nat
  | [] => 0
  | d :: r => uptoBulk d + uptoBulkAll r
def uptoBulkEntries {H : Type} : List (Lit × DataW H) → Nat
  | [] => 0
  | x :: r => uptoBulkEntry x + uptoBulkEntries r
def uptoBulkEntry {H : Type} : Lit × DataW H → Nat
  | (.string bytes, d) => bytes.length + uptoBulk d + 1
  | (_, d) => uptoBulk d + 1
 end
def uptoSmall : (H : Type) → List (DataW H) → Bool := fun _ ds => decide (uptoBulkAll ds ≤ 1048576)
def OpenSpec.upto (s : _root_.Go.ChangeSpec) : _root_.Go.OpenSpec := { _root_.Go.OpenSpec.ofChange s with cond := some uptoSmall }

/-- 'marlinelaw03.AccmTells', WHERE WHAT IT READS IS OF BULK AT MOST 1048576: true; the input reads as it did. -/
def accmTellsUptoRow : OpenClaim := { program := "ytidkddffkhbaaaa", sum := "be03143ffb0adbf4d38526bf337e64bffa4fd9a6627feb4d3522c15509a9d848", func := "marline/marlinelaw03.AccmTells", spec := "accmTells", apart := false, narrowed := true }
def AccmTellsUptoSaid : Prop := accmTellsUptoRow.holds Try.pinned (OpenSpec.upto accmTellsSpec)

/-- 'marlinelaw03.AccmBack', WHERE WHAT IT READS IS OF BULK AT MOST 1048576: true; the input reads as it did. -/
def accmBackUptoRow : OpenClaim := { program := "ytidkddffkhbaaaa", sum := "be03143ffb0adbf4d38526bf337e64bffa4fd9a6627feb4d3522c15509a9d848", func := "marline/marlinelaw03.AccmBack", spec := "accmBack", apart := false, narrowed := true }
def AccmBackUptoSaid : Prop := accmBackUptoRow.holds Try.pinned (OpenSpec.upto accmBackSpec)

/-- 'marlinelaw03.AccmWithin', WHERE WHAT IT READS IS OF BULK AT MOST 1048576: true; the input reads as it did. -/
def accmWithinUptoRow : OpenClaim := { program := "ytidkddffkhbaaaa", sum := "be03143ffb0adbf4d38526bf337e64bffa4fd9a6627feb4d3522c15509a9d848", func := "marline/marlinelaw03.AccmWithin", spec := "accmWithin", apart := false, narrowed := true }
def AccmWithinUptoSaid : Prop := accmWithinUptoRow.holds Try.pinned (OpenSpec.upto accmWithinSpec)

end Rows
end Go.Proofs.Ytidkddffkhbaaaa
