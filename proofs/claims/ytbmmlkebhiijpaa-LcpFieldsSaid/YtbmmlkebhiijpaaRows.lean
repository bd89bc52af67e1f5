/-
  No cell of these rows narrows 'for every input' (looked for: loops, veiled, ifaces, maps, wideKeys, modest, calm, conditions, laid).
  DERIVED. THE GIVEN ROWS OF THIS SEAT. 3 by the template 'for every input the law returns true; each argument reads behind the call as it read before'; 0 by the template 'total and deterministic' (their statements: YtbmmlkebhiijpaaTotals.lean).
  GIVEN WITH THE SEED: the statements are not yours to turn. If you find one false, say at which input.
  Laid BY PROGRAM, IN A SANDBOX (cutbox-rows.mjs): the forced cells as the released guide's own fill.sh prints them over the translation 5eaa66bbfc6024f5… (all of the seat's roots in one cut). By AI agents, Wed Nov 11 2026. No macro, syntax, notation, axiom, sorry.
-/
import Derived.Test.YtbmmlkebhiijpaaChecked
import GoSem.Claim
import GoSem.ClaimJoined
import GoSem.ClaimMapViews
import Derived.JoinedTies
import Derived.KernelRfl
namespace Go.Proofs.Ytbmmlkebhiijpaa
/- THE CELL 'sum', in the pinned program and in every row, IS THE sha256 OF THE DUMP (.gsa) THAT YtbmmlkebhiijpaaProg.lean LOADS. Nothing in Lean hashes anything: it is a label: what it is worth is what the hold of that sum in a sandbox is worth. -/
noncomputable def Try.pinned : Pinned := { name := "ytbmmlkebhiijpaa", sum := "5eaa66bbfc6024f58ace1ed7c5c36ebab8b956cb81a609bcb485333f0d133561", checked := Try.checked }
namespace Rows
def none {H : Type} : Left H := { results := [], args := [] }

/-- 'marlinelaw15.LcpTells': WHATEVER THE INPUT: true; the input reads as it did. -/
def lcpTellsSpec : ChangeSpec := { name := "lcpTells", fn := fun _ => fun
  | [d1, d2] => { results := [.lit (.bool true)], args := [d1, d2] }
  | _ => none }
def lcpTellsRow : OpenClaim := { program := "ytbmmlkebhiijpaa", sum := "5eaa66bbfc6024f58ace1ed7c5c36ebab8b956cb81a609bcb485333f0d133561", func := "marline/marlinelaw15.LcpTells", spec := "lcpTells", unfollowed := true, recurses := true, apart := false }
def LcpTellsSaid : Prop := lcpTellsRow.holds Try.pinned (OpenSpec.ofChange lcpTellsSpec)

/-- ITS FALSE NEIGHBOUR: 'it returns false'. Refute it at one input. -/
def lcpTellsWrong : ChangeSpec := { name := "lcpTells", fn := fun _ => fun
  | [d1, d2] => { results := [.lit (.bool false)], args := [d1, d2] }
  | _ => none }
def LcpTellsWrongFalsely : Prop := lcpTellsRow.holds Try.pinned (OpenSpec.ofChange lcpTellsWrong)

/-- 'marlinelaw15.LcpBack': WHATEVER THE INPUT: true; the input reads as it did. -/
def lcpBackSpec : ChangeSpec := { name := "lcpBack", fn := fun _ => fun
  | [d1, d2, d3] => { results := [.lit (.bool true)], args := [d1, d2, d3] }
  | _ => none }
def lcpBackRow : OpenClaim := { program := "ytbmmlkebhiijpaa", sum := "5eaa66bbfc6024f58ace1ed7c5c36ebab8b956cb81a609bcb485333f0d133561", func := "marline/marlinelaw15.LcpBack", spec := "lcpBack", unfollowed := true, recurses := true, apart := false }
def LcpBackSaid : Prop := lcpBackRow.holds Try.pinned (OpenSpec.ofChange lcpBackSpec)

/-- ITS FALSE NEIGHBOUR: 'it returns false'. Refute it at one input. -/
def lcpBackWrong : ChangeSpec := { name := "lcpBack", fn := fun _ => fun
  | [d1, d2, d3] => { results := [.lit (.bool false)], args := [d1, d2, d3] }
  | _ => none }
def LcpBackWrongFalsely : Prop := lcpBackRow.holds Try.pinned (OpenSpec.ofChange lcpBackWrong)

/-- 'marlinelaw15.LcpFields': WHATEVER THE INPUT: true; the input reads as it did. -/
def lcpFieldsSpec : ChangeSpec := { name := "lcpFields", fn := fun _ => fun
  | [d1, d2] => { results := [.lit (.bool true)], args := [d1, d2] }
  | _ => none }
def lcpFieldsRow : OpenClaim := { program := "ytbmmlkebhiijpaa", sum := "5eaa66bbfc6024f58ace1ed7c5c36ebab8b956cb81a609bcb485333f0d133561", func := "marline/marlinelaw15.LcpFields", spec := "lcpFields", unfollowed := true, recurses := true, apart := false }
def LcpFieldsSaid : Prop := lcpFieldsRow.holds Try.pinned (OpenSpec.ofChange lcpFieldsSpec)

/-- ITS FALSE NEIGHBOUR: 'it returns false'. Refute it at one input. -/
def lcpFieldsWrong : ChangeSpec := { name := "lcpFields", fn := fun _ => fun
  | [d1, d2] => { results := [.lit (.bool false)], args := [d1, d2] }
  | _ => none }
def LcpFieldsWrongFalsely : Prop := lcpFieldsRow.holds Try.pinned (OpenSpec.ofChange lcpFieldsWrong)

/- THE SECOND FORM. 'bulk': how many values and letters a reading holds, each counted each time it is reached (what is shared counts as often as it is met; a slice's spare places count too). A statement '..UptoSaid' is the law's where the arguments, and the package variables that the reading takes, are together of bulk at most 1048576: NARROWER than '..Said'. Prove '..Said' where nothing that the law and all that it calls make is longer than what came in: it says more and counts as full. Else prove '..UptoSaid'. A law counts once. -/
mutual
def uptoBulk {H : Type} : DataW H → Nat
  | .lit (.string bytes) => bytes.length + 1
  | .lit _ => 1
  | .nil => 1
  | .ptr d => uptoBulk d + 1
  | .slice elems spare => uptoBulkAll elems + uptoBulkAll spare + 1
  | .agg parts => uptoBulkAll parts + 1
  | .iface _ d => uptoBulk d + 1
  | .map entries => uptoBulkEntries entries + 1
  | .held _ => 1
def uptoBulkAll {H : Type} : List (DataW H) → Nat
  | [] => 0
  | d :: r => uptoBulk d + uptoBulkAll r
def uptoBulkEntries {H : Type} : List (Lit × DataW H) → Nat
  | [] => 0
  | x :: r => uptoBulkEntry x + uptoBulkEntries r
def uptoBulkEntry {H : Type} : Lit × DataW H → Nat
  | (.string bytes, d) => bytes.length + uptoBulk d + 1
  | (_, d) => uptoBulk d + 1
 end
def uptoSmall : (H : Type) → List (DataW H) → Bool := fun _ ds => decide (uptoBulkAll ds ≤ 1048576)
def OpenSpec.upto (s : _root_.Go.ChangeSpec) : _root_.Go.OpenSpec := { _root_.Go.OpenSpec.ofChange s with cond := some uptoSmall }

/-- 'marlinelaw15.LcpTells', WHERE WHAT IT READS IS OF BULK AT MOST 1048576: true; the input reads as it did. -/
def lcpTellsUptoRow : OpenClaim := { program := "ytbmmlkebhiijpaa", sum := "5eaa66bbfc6024f58ace1ed7c5c36ebab8b956cb81a609bcb485333f0d133561", func := "marline/marlinelaw15.LcpTells", spec := "lcpTells", unfollowed := true, recurses := true, apart := false, narrowed := true }
def LcpTellsUptoSaid : Prop := lcpTellsUptoRow.holds Try.pinned (OpenSpec.upto lcpTellsSpec)

/-- 'marlinelaw15.LcpBack', WHERE WHAT IT READS IS OF BULK AT MOST 1048576: true; the input reads as it did. -/
def lcpBackUptoRow : OpenClaim := { program := "ytbmmlkebhiijpaa", sum := "5eaa66bbfc6024f58ace1ed7c5c36ebab8b956cb81a609bcb485333f0d133561", func := "marline/marlinelaw15.LcpBack", spec := "lcpBack", unfollowed := true, recurses := true, apart := false, narrowed := true }
def LcpBackUptoSaid : Prop := lcpBackUptoRow.holds Try.pinned (OpenSpec.upto lcpBackSpec)

/-- 'marlinelaw15.LcpFields', WHERE WHAT IT READS IS OF BULK AT MOST 1048576: true; the input reads as it did. -/
def lcpFieldsUptoRow : OpenClaim := { program := "ytbmmlkebhiijpaa", sum := "5eaa66bbfc6024f58ace1ed7c5c36ebab8b956cb81a609bcb485333f0d133561", func := "marline/marlinelaw15.LcpFields", spec := "lcpFields", unfollowed := true, recurses := true, apart := false, narrowed := true }
def LcpFieldsUptoSaid : Prop := lcpFieldsUptoRow.holds Try.pinned (OpenSpec.upto lcpFieldsSpec)

end Rows
end Go.Proofs.Ytbmmlkebhiijpaa
