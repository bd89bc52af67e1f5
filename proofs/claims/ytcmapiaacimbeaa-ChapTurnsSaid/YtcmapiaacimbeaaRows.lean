/-
  No cell of these rows narrows 'for every input' (looked for: loops, veiled, ifaces, maps, wideKeys, modest, calm, conditions, laid).
  DERIVED. THE GIVEN ROWS OF THIS SEAT. 3 by the template 'for every input the law returns true; each argument reads behind the call as it read before'; 0 by the template 'total and deterministic' (their statements: YtcmapiaacimbeaaTotals.lean).
  GIVEN WITH THE SEED: the statements are not yours to turn. If you find one false, say at which input.
  Laid BY PROGRAM, IN A SANDBOX (cutbox-rows.mjs): the forced cells as the released guide's own fill.sh prints them over the translation 3ba406b55068240a… (all of the seat's roots in one cut). By AI agents, Wed Nov 11 2026. No macro, syntax, notation, axiom, sorry.
-/
import Derived.Test.YtcmapiaacimbeaaChecked
import GoSem.Claim
import GoSem.ClaimJoined
import GoSem.ClaimMapViews
import Derived.JoinedTies
import Derived.KernelRfl
namespace Go.Proofs.Ytcmapiaacimbeaa
/- THE CELL 'sum', in the pinned program and in every row, IS THE sha256 OF THE DUMP (.gsa) THAT YtcmapiaacimbeaaProg.lean LOADS. Nothing in Lean hashes anything: it is a label: what it is worth is what the hold of that sum in a sandbox is worth. -/
noncomputable def Try.pinned : Pinned := { name := "ytcmapiaacimbeaa", sum := "3ba406b55068240aca734b6f390e6ac8062171c89afd9a2e21161568821ad32c", checked := Try.checked }
namespace Rows
def none {H : Type} : Left H := { results := [], args := [] }

/-- 'marlinelaw18.ChapTells': WHATEVER THE INPUT: true; the input reads as it did. -/
def chapTellsSpec : ChangeSpec := { name := "chapTells", fn := fun _ => fun
  | [d1, d2, d3] => { results := [.lit (.bool true)], args := [d1, d2, d3] }
  | _ => none }
def chapTellsRow : OpenClaim := { program := "ytcmapiaacimbeaa", sum := "3ba406b55068240aca734b6f390e6ac8062171c89afd9a2e21161568821ad32c", func := "marline/marlinelaw18.ChapTells", spec := "chapTells", apart := false }
def ChapTellsSaid : Prop := chapTellsRow.holds Try.pinned (OpenSpec.ofChange chapTellsSpec)

/-- ITS FALSE NEIGHBOUR: 'it returns false'. Refute it at one input. -/
def chapTellsWrong : ChangeSpec := { name := "chapTells", fn := fun _ => fun
  | [d1, d2, d3] => { results := [.lit (.bool false)], args := [d1, d2, d3] }
  | _ => none }
def ChapTellsWrongFalsely : Prop := chapTellsRow.holds Try.pinned (OpenSpec.ofChange chapTellsWrong)

/-- 'marlinelaw18.ChapBack': WHATEVER THE INPUT: true; the input reads as it did. -/
def chapBackSpec : ChangeSpec := { name := "chapBack", fn := fun _ => fun
  | [d1, d2, d3] => { results := [.lit (.bool true)], args := [d1, d2, d3] }
  | _ => none }
def chapBackRow : OpenClaim := { program := "ytcmapiaacimbeaa", sum := "3ba406b55068240aca734b6f390e6ac8062171c89afd9a2e21161568821ad32c", func := "marline/marlinelaw18.ChapBack", spec := "chapBack", apart := false }
def ChapBackSaid : Prop := chapBackRow.holds Try.pinned (OpenSpec.ofChange chapBackSpec)

/-- ITS FALSE NEIGHBOUR: 'it returns false'. Refute it at one input. -/
def chapBackWrong : ChangeSpec := { name := "chapBack", fn := fun _ => fun
  | [d1, d2, d3] => { results := [.lit (.bool false)], args := [d1, d2, d3] }
  | _ => none }
def ChapBackWrongFalsely : Prop := chapBackRow.holds Try.pinned (OpenSpec.ofChange chapBackWrong)

/-- 'marlinelaw18.ChapTurns': WHATEVER THE INPUT: true; the input reads as it did. -/
def chapTurnsSpec : ChangeSpec := { name := "chapTurns", fn := fun _ => fun
  | [d1, d2] => { results := [.lit (.bool true)], args := [d1, d2] }
  | _ => none }
def chapTurnsRow : OpenClaim := { program := "ytcmapiaacimbeaa", sum := "3ba406b55068240aca734b6f390e6ac8062171c89afd9a2e21161568821ad32c", func := "marline/marlinelaw18.ChapTurns", spec := "chapTurns", apart := false }
def ChapTurnsSaid : Prop := chapTurnsRow.holds Try.pinned (OpenSpec.ofChange chapTurnsSpec)

/-- ITS FALSE NEIGHBOUR: 'it returns false'. Refute it at one input. -/
def chapTurnsWrong : ChangeSpec := { name := "chapTurns", fn := fun _ => fun
  | [d1, d2] => { results := [.lit (.bool false)], args := [d1, d2] }
  | _ => none }
def ChapTurnsWrongFalsely : Prop := chapTurnsRow.holds Try.pinned (OpenSpec.ofChange chapTurnsWrong)

/- THE SECOND FORM. 'bulk': how many values and letters a reading holds, each counted each time it is reached (what is shared counts as often as it is met; a slice's spare places count too). A statement '..UptoSaid' is the law's where the arguments, and the package variables that the reading takes, are together of bulk at most 1048576: NARROWER than '..Said'. Prove '..Said' where nothing that the law and all that it calls make is longer than what came in: it says more and counts as full. Else prove '..UptoSaid'. A law counts once. -/
mutual
def uptoBulk {H : Type} : DataW H → Nat
  | .lit (.string bytes) => bytes.length + 1
  | .lit _ => 1
  | .nil => 1
  | .ptr d => uptoBulk d + 1
  | .slice elems spare => uptoBulkAll elems + uptoBulkAll spare + 1
  | .agg parts => uptoBulkAll parts + 1
  | .iface _ d => uptoBulk d + 1
  | .map entries => uptoBulkEntries entries + 1
  | .held _ => 1
def uptoBulkAll {H : Type} : List (DataW H) → Nat
  | [] => 0
  | d :: r => uptoBulk d + uptoBulkAll r
def uptoBulkEntries {H : Type} : List (Lit × DataW H) → Nat
  | [] => 0
  | x :: r => uptoBulkEntry x + uptoBulkEntries r
def uptoBulkEntry {H : Type} : Lit × DataW H → Nat
  | (.string bytes, d) => bytes.length + uptoBulk d + 1
  | (_, d) => uptoBulk d + 1
 end
def uptoSmall : (H : Type) → List (DataW H) → Bool := fun _ ds => decide (uptoBulkAll ds ≤ 1048576)
def OpenSpec.upto (s : _root_.Go.ChangeSpec) : _root_.Go.OpenSpec := { _root_.Go.OpenSpec.ofChange s with cond := some uptoSmall }

/-- 'marlinelaw18.ChapTells', WHERE WHAT IT READS IS OF BULK AT MOST 1048576: true; the input reads as it did. -/
def chapTellsUptoRow : OpenClaim := { program := "ytcmapiaacimbeaa", sum := "3ba406b55068240aca734b6f390e6ac8062171c89afd9a2e21161568821ad32c", func := "marline/marlinelaw18.ChapTells", spec := "chapTells", apart := false, narrowed := true }
def ChapTellsUptoSaid : Prop := chapTellsUptoRow.holds Try.pinned (OpenSpec.upto chapTellsSpec)

/-- 'marlinelaw18.ChapBack', WHERE WHAT IT READS IS OF BULK AT MOST 1048576: true; the input reads as it did. -/
def chapBackUptoRow : OpenClaim := { program := "ytcmapiaacimbeaa", sum := "3ba406b55068240aca734b6f390e6ac8062171c89afd9a2e21161568821ad32c", func := "marline/marlinelaw18.ChapBack", spec := "chapBack", apart := false, narrowed := true }
def ChapBackUptoSaid : Prop := chapBackUptoRow.holds Try.pinned (OpenSpec.upto chapBackSpec)

/-- 'marlinelaw18.ChapTurns', WHERE WHAT IT READS IS OF BULK AT MOST 1048576: true; the input reads as it did. -/
def chapTurnsUptoRow : OpenClaim := { program := "ytcmapiaacimbeaa", sum := "3ba406b55068240aca734b6f390e6ac8062171c89afd9a2e21161568821ad32c", func := "marline/marlinelaw18.ChapTurns", spec := "chapTurns", apart := false, narrowed := true }
def ChapTurnsUptoSaid : Prop := chapTurnsUptoRow.holds Try.pinned (OpenSpec.upto chapTurnsSpec)

end Rows
end Go.Proofs.Ytcmapiaacimbeaa
