/-
  No cell of these rows narrows 'for every input' (looked for: loops, veiled, ifaces, maps, wideKeys, modest, calm, conditions, laid).
  DERIVED. THE GIVEN ROWS OF THIS SEAT. 3 by the template 'for every input the law returns true; each argument reads behind the call as it read before'; 0 by the template 'total and deterministic' (their statements: YtbagdaidhnegaaaTotals.lean).
  GIVEN WITH THE SEED: the statements are not yours to turn. If you find one false, say at which input.
  Laid BY PROGRAM, IN A SANDBOX (cutbox-rows.mjs): the forced cells as the released guide's own fill.sh prints them over the translation 6615677d60c5e8c8… (all of the seat's roots in one cut). By AI agents, Wed Nov 11 2026. No macro, syntax, notation, axiom, sorry.
-/
import Derived.Test.YtbagdaidhnegaaaChecked
import GoSem.Claim
import GoSem.ClaimJoined
import GoSem.ClaimMapViews
import Derived.JoinedTies
import Derived.KernelRfl
namespace Go.Proofs.Ytbagdaidhnegaaa
/- THE CELL 'sum', in the pinned program and in every row, IS THE sha256 OF THE DUMP (.gsa) THAT YtbagdaidhnegaaaProg.lean LOADS. Nothing in Lean hashes anything: it is a label: what it is worth is what the hold of that sum in a sandbox is worth. -/
noncomputable def Try.pinned : Pinned := { name := "ytbagdaidhnegaaa", sum := "6615677d60c5e8c80da4af3388651610a5e58efc83941ebbcab95d76c17c0b0d", checked := Try.checked }
namespace Rows
def none {H : Type} : Left H := { results := [], args := [] }

/-- 'marlinelaw17.PapTells': WHATEVER THE INPUT: true; the input reads as it did. -/
def papTellsSpec : ChangeSpec := { name := "papTells", fn := fun _ => fun
  | [d1, d2] => { results := [.lit (.bool true)], args := [d1, d2] }
  | _ => none }
def papTellsRow : OpenClaim := { program := "ytbagdaidhnegaaa", sum := "6615677d60c5e8c80da4af3388651610a5e58efc83941ebbcab95d76c17c0b0d", func := "marline/marlinelaw17.PapTells", spec := "papTells", apart := false }
def PapTellsSaid : Prop := papTellsRow.holds Try.pinned (OpenSpec.ofChange papTellsSpec)

/-- ITS FALSE NEIGHBOUR: 'it returns false'. Refute it at one input. -/
def papTellsWrong : ChangeSpec := { name := "papTells", fn := fun _ => fun
  | [d1, d2] => { results := [.lit (.bool false)], args := [d1, d2] }
  | _ => none }
def PapTellsWrongFalsely : Prop := papTellsRow.holds Try.pinned (OpenSpec.ofChange papTellsWrong)

/-- 'marlinelaw17.PapBack': WHATEVER THE INPUT: true; the input reads as it did. -/
def papBackSpec : ChangeSpec := { name := "papBack", fn := fun _ => fun
  | [d1, d2, d3] => { results := [.lit (.bool true)], args := [d1, d2, d3] }
  | _ => none }
def papBackRow : OpenClaim := { program := "ytbagdaidhnegaaa", sum := "6615677d60c5e8c80da4af3388651610a5e58efc83941ebbcab95d76c17c0b0d", func := "marline/marlinelaw17.PapBack", spec := "papBack", apart := false }
def PapBackSaid : Prop := papBackRow.holds Try.pinned (OpenSpec.ofChange papBackSpec)

/-- ITS FALSE NEIGHBOUR: 'it returns false'. Refute it at one input. -/
def papBackWrong : ChangeSpec := { name := "papBack", fn := fun _ => fun
  | [d1, d2, d3] => { results := [.lit (.bool false)], args := [d1, d2, d3] }
  | _ => none }
def PapBackWrongFalsely : Prop := papBackRow.holds Try.pinned (OpenSpec.ofChange papBackWrong)

/-- 'marlinelaw17.PapKeeps': WHATEVER THE INPUT: true; the input reads as it did. -/
def papKeepsSpec : ChangeSpec := { name := "papKeeps", fn := fun _ => fun
  | [d1, d2] => { results := [.lit (.bool true)], args := [d1, d2] }
  | _ => none }
def papKeepsRow : OpenClaim := { program := "ytbagdaidhnegaaa", sum := "6615677d60c5e8c80da4af3388651610a5e58efc83941ebbcab95d76c17c0b0d", func := "marline/marlinelaw17.PapKeeps", spec := "papKeeps", apart := false }
def PapKeepsSaid : Prop := papKeepsRow.holds Try.pinned (OpenSpec.ofChange papKeepsSpec)

/-- ITS FALSE NEIGHBOUR: 'it returns false'. Refute it at one input. -/
def papKeepsWrong : ChangeSpec := { name := "papKeeps", fn := fun _ => fun
  | [d1, d2] => { results := [.lit (.bool false)], args := [d1, d2] }
  | _ => none }
def PapKeepsWrongFalsely : Prop := papKeepsRow.holds Try.pinned (OpenSpec.ofChange papKeepsWrong)

/- THE SECOND FORM. 'bulk': how many values and letters a reading holds, each counted each time it is reached (what is shared counts as often as it is met; a slice's spare places count too). A statement '..UptoSaid' is the law's where the arguments, and the package variables that the reading takes, are together of bulk at most 1048576: NARROWER than '..Said'. Prove '..Said' where nothing that the law and all that it calls make is longer than what came in: it says more and counts as full. Else prove '..UptoSaid'. A law counts once. -/
mutual
def uptoBulk {H : Type} : DataW H → Nat
  | .lit (.string bytes) => bytes.length + 1
  | .lit _ => 1
  | .nil => 1
  | .ptr d => uptoBulk d + 1
  | .slice elems spare => uptoBulkAll elems + uptoBulkAll spare + 1
  | .agg parts => uptoBulkAll parts + 1
  | .iface _ d => uptoBulk d + 1
  | .map entries => uptoBulkEntries entries + 1
  | .held _ => 1
def uptoBulkAll {H : Type} : List (DataW H) → Nat
  | [] => 0
  | d :: r => uptoBulk d + uptoBulkAll r
def uptoBulkEntries {H : Type} : List (Lit × DataW H) → Nat
  | [] => 0
  | x :: r => uptoBulkEntry x + uptoBulkEntries r
def uptoBulkEntry {H : Type} : Lit × DataW H → Nat
  | (.string bytes, d) => bytes.length + uptoBulk d + 1
  | (_, d) => uptoBulk d + 1
 end
def uptoSmall : (H : Type) → List (DataW H) → Bool := fun _ ds => decide (uptoBulkAll ds ≤ 1048576)
def OpenSpec.upto (s : _root_.Go.ChangeSpec) : _root_.Go.OpenSpec := { _root_.Go.OpenSpec.ofChange s with cond := some uptoSmall }

/-- 'marlinelaw17.PapTells', WHERE WHAT IT READS IS OF BULK AT MOST 1048576: true; the input reads as it did. -/
def papTellsUptoRow : OpenClaim := { program := "ytbagdaidhnegaaa", sum := "6615677d60c5e8c80da4af3388651610a5e58efc83941ebbcab95d76c17c0b0d", func := "marline/marlinelaw17.PapTells", spec := "papTells", apart := false, narrowed := true }
def PapTellsUptoSaid : Prop := papTellsUptoRow.holds Try.pinned (OpenSpec.upto papTellsSpec)

/-- 'marlinelaw17.PapBack', WHERE WHAT IT READS IS OF BULK AT MOST 1048576: true; the input reads as it did. -/
def papBackUptoRow : OpenClaim := { program := "ytbagdaidhnegaaa", sum := "6615677d60c5e8c80da4af3388651610a5e58efc83941ebbcab95d76c17c0b0d", func := "marline/marlinelaw17.PapBack", spec := "papBack", apart := false, narrowed := true }
def PapBackUptoSaid : Prop := papBackUptoRow.holds Try.pinned (OpenSpec.upto papBackSpec)

/-- 'marlinelaw17.PapKeeps', WHERE WHAT IT READS IS OF BULK AT MOST 1048576: true; the input reads as it did. -/
def papKeepsUptoRow : OpenClaim := { program := "ytbagdaidhnegaaa", sum := "6615677d60c5e8c80da4af3388651610a5e58efc83941ebbcab95d76c17c0b0d", func := "marline/marlinelaw17.PapKeeps", spec := "papKeeps", apart := false, narrowed := true }
def PapKeepsUptoSaid : Prop := papKeepsUptoRow.holds Try.pinned (OpenSpec.upto papKeepsSpec)

end Rows
end Go.Proofs.Ytbagdaidhnegaaa
