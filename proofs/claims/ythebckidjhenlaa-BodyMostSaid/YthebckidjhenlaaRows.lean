/-
  No cell of these rows narrows 'for every input' (looked for: loops, veiled, ifaces, maps, wideKeys, modest, calm, conditions, laid).
  DERIVED. THE GIVEN ROWS OF THIS SEAT. 3 by the template 'for every input the law returns true; each argument reads behind the call as it read before'; 0 by the template 'total and deterministic' (their statements: YthebckidjhenlaaTotals.lean).
  GIVEN WITH THE SEED: the statements are not yours to turn. If you find one false, say at which input.
  Laid BY PROGRAM, IN A SANDBOX (cutbox-rows.mjs): the forced cells as the released guide's own fill.sh prints them over the translation 79e37db7ae742952… (all of the seat's roots in one cut). By AI agents, Wed Nov 11 2026. No macro, syntax, notation, axiom, sorry.
-/
import Derived.Test.YthebckidjhenlaaChecked
import GoSem.Claim
import GoSem.ClaimJoined
import GoSem.ClaimMapViews
import Derived.JoinedTies
import Derived.KernelRfl
namespace Go.Proofs.Ythebckidjhenlaa
/- THE CELL 'sum', in the pinned program and in every row, IS THE sha256 OF THE DUMP (.gsa) THAT YthebckidjhenlaaProg.lean LOADS. Nothing in Lean hashes anything: it is a label: what it is worth is what the hold of that sum in a sandbox is worth. -/
noncomputable def Try.pinned : Pinned := { name := "ythebckidjhenlaa", sum := "79e37db7ae742952868efe54367c7aca839f335c22443043028bb6e271b43e30", checked := Try.checked }
namespace Rows
def none {H : Type} : Left H := { results := [], args := [] }

/-- 'marlinelaw20.BodyBack': WHATEVER THE INPUT: true; the input reads as it did. -/
def bodyBackSpec : ChangeSpec := { name := "bodyBack", fn := fun _ => fun
  | [d1, d2, d3] => { results := [.lit (.bool true)], args := [d1, d2, d3] }
  | _ => none }
def bodyBackRow : OpenClaim := { program := "ythebckidjhenlaa", sum := "79e37db7ae742952868efe54367c7aca839f335c22443043028bb6e271b43e30", func := "marline/marlinelaw20.BodyBack", spec := "bodyBack", unfollowed := true, recurses := true, apart := false }
def BodyBackSaid : Prop := bodyBackRow.holds Try.pinned (OpenSpec.ofChange bodyBackSpec)

/-- ITS FALSE NEIGHBOUR: 'it returns false'. Refute it at one input. -/
def bodyBackWrong : ChangeSpec := { name := "bodyBack", fn := fun _ => fun
  | [d1, d2, d3] => { results := [.lit (.bool false)], args := [d1, d2, d3] }
  | _ => none }
def BodyBackWrongFalsely : Prop := bodyBackRow.holds Try.pinned (OpenSpec.ofChange bodyBackWrong)

/-- 'marlinelaw20.BodyMost': WHATEVER THE INPUT: true; the input reads as it did. -/
def bodyMostSpec : ChangeSpec := { name := "bodyMost", fn := fun _ => fun
  | [d1, d2, d3] => { results := [.lit (.bool true)], args := [d1, d2, d3] }
  | _ => none }
def bodyMostRow : OpenClaim := { program := "ythebckidjhenlaa", sum := "79e37db7ae742952868efe54367c7aca839f335c22443043028bb6e271b43e30", func := "marline/marlinelaw20.BodyMost", spec := "bodyMost", unfollowed := true, recurses := true, apart := false }
def BodyMostSaid : Prop := bodyMostRow.holds Try.pinned (OpenSpec.ofChange bodyMostSpec)

/-- ITS FALSE NEIGHBOUR: 'it returns false'. Refute it at one input. -/
def bodyMostWrong : ChangeSpec := { name := "bodyMost", fn := fun _ => fun
  | [d1, d2, d3] => { results := [.lit (.bool false)], args := [d1, d2, d3] }
  | _ => none }
def BodyMostWrongFalsely : Prop := bodyMostRow.holds Try.pinned (OpenSpec.ofChange bodyMostWrong)

/-- 'marlinelaw20.BodySame': WHATEVER THE INPUT: true; the input reads as it did. -/
def bodySameSpec : ChangeSpec := { name := "bodySame", fn := fun _ => fun
  | [d1, d2] => { results := [.lit (.bool true)], args := [d1, d2] }
  | _ => none }
def bodySameRow : OpenClaim := { program := "ythebckidjhenlaa", sum := "79e37db7ae742952868efe54367c7aca839f335c22443043028bb6e271b43e30", func := "marline/marlinelaw20.BodySame", spec := "bodySame", unfollowed := true, recurses := true, apart := false }
def BodySameSaid : Prop := bodySameRow.holds Try.pinned (OpenSpec.ofChange bodySameSpec)

/-- ITS FALSE NEIGHBOUR: 'it returns false'. Refute it at one input. -/
def bodySameWrong : ChangeSpec := { name := "bodySame", fn := fun _ => fun
  | [d1, d2] => { results := [.lit (.bool false)], args := [d1, d2] }
  | _ => none }
def BodySameWrongFalsely : Prop := bodySameRow.holds Try.pinned (OpenSpec.ofChange bodySameWrong)

/- THE SECOND FORM. 'bulk': how many values and letters a reading holds, each counted each time it is reached (what is shared counts as often as it is met; a slice's spare places count too). A statement '..UptoSaid' is the law's where the arguments, and the package variables that the reading takes, are together of bulk at most 1048576: NARROWER than '..Said'. Prove '..Said' where nothing that the law and all that it calls make is longer than what came in: it says more and counts as full. Else prove '..UptoSaid'. A law counts once. -/
mutual
def uptoBulk {H : Type} : DataW H → Nat
  | .lit (.string bytes) => bytes.length + 1
  | .lit _ => 1
  | .nil => 1
  | .ptr d => uptoBulk d + 1
  | .slice elems spare => uptoBulkAll elems + uptoBulkAll spare + 1
  | .agg parts => uptoBulkAll parts + 1
  | .iface _ d => uptoBulk d + 1
  | .map entries => uptoBulkEntries entries + 1
  | .held _ => 1
def uptoBulkAll {H : Type} : List (DataW H) → Nat
  | [] => 0
  | d :: r => uptoBulk d + uptoBulkAll r
def uptoBulkEntries {H : Type} : List (Lit × DataW H) → Nat
  | [] => 0
  | x :: r => uptoBulkEntry x + uptoBulkEntries r
def uptoBulkEntry {H : Type} : Lit × DataW H → Nat
  | (.string bytes, d) => bytes.length + uptoBulk d + 1
  | (_, d) => uptoBulk d + 1
 end
def uptoSmall : (H : Type) → List (DataW H) → Bool := fun _ ds => decide (uptoBulkAll ds ≤ 1048576)
def OpenSpec.upto (s : _root_.Go.ChangeSpec) : _root_.Go.OpenSpec := { _root_.Go.OpenSpec.ofChange s with cond := some uptoSmall }

/-- 'marlinelaw20.BodyBack', WHERE WHAT IT READS IS OF BULK AT MOST 1048576: true; the input reads as it did. -/
def bodyBackUptoRow : OpenClaim := { program := "ythebckidjhenlaa", sum := "79e37db7ae742952868efe54367c7aca839f335c22443043028bb6e271b43e30", func := "marline/marlinelaw20.BodyBack", spec := "bodyBack", unfollowed := true, recurses := true, apart := false, narrowed := true }
def BodyBackUptoSaid : Prop := bodyBackUptoRow.holds Try.pinned (OpenSpec.upto bodyBackSpec)

/-- 'marlinelaw20.BodyMost', WHERE WHAT IT READS IS OF BULK AT MOST 1048576: true; the input reads as it did. -/
def bodyMostUptoRow : OpenClaim := { program := "ythebckidjhenlaa", sum := "79e37db7ae742952868efe54367c7aca839f335c22443043028bb6e271b43e30", func := "marline/marlinelaw20.BodyMost", spec := "bodyMost", unfollowed := true, recurses := true, apart := false, narrowed := true }
def BodyMostUptoSaid : Prop := bodyMostUptoRow.holds Try.pinned (OpenSpec.upto bodyMostSpec)

/-- 'marlinelaw20.BodySame', WHERE WHAT IT READS IS OF BULK AT MOST 1048576: true; the input reads as it did. -/
def bodySameUptoRow : OpenClaim := { program := "ythebckidjhenlaa", sum := "79e37db7ae742952868efe54367c7aca839f335c22443043028bb6e271b43e30", func := "marline/marlinelaw20.BodySame", spec := "bodySame", unfollowed := true, recurses := true, apart := false, narrowed := true }
def BodySameUptoSaid : Prop := bodySameUptoRow.holds Try.pinned (OpenSpec.upto bodySameSpec)

end Rows
end Go.Proofs.Ythebckidjhenlaa
