/-
  No cell of these rows narrows 'for every input' (looked for: loops, veiled, ifaces, maps, wideKeys, modest, calm, conditions, laid).
  DERIVED. THE GIVEN ROWS OF THIS SEAT. 5 by the template 'for every input the law returns true; each argument reads behind the call as it read before'; 0 by the template 'total and deterministic' (their statements: YtmilbkhkefbjkaaTotals.lean).
  GIVEN WITH THE SEED: the statements are not yours to turn. If you find one false, say at which input.
  Laid BY PROGRAM, IN A SANDBOX (cutbox-rows.mjs): the forced cells as the released guide's own fill.sh prints them over the translation 68e951e5d8406455… (all of the seat's roots in one cut). By AI agents, Wed Nov 11 2026. No macro, syntax, notation, axiom, sorry.
-/
import Derived.Test.YtmilbkhkefbjkaaChecked
import GoSem.Claim
import GoSem.ClaimJoined
import GoSem.ClaimMapViews
import Derived.JoinedTies
import Derived.KernelRfl
namespace Go.Proofs.Ytmilbkhkefbjkaa
/- THE CELL 'sum', in the pinned program and in every row, IS THE sha256 OF THE DUMP (.gsa) THAT YtmilbkhkefbjkaaProg.lean LOADS. Nothing in Lean hashes anything: it is a label: what it is worth is what the hold of that sum in a sandbox is worth. -/
noncomputable def Try.pinned : Pinned := { name := "ytmilbkhkefbjkaa", sum := "68e951e5d8406455534b9681786d38a86e3c2a74fc6af0d899c2ca3660d8050e", checked := Try.checked }
namespace Rows
def none {H : Type} : Left H := { results := [], args := [] }

/-- 'marlinelaw14.OptsTell': WHATEVER THE INPUT: true; the input reads as it did. -/
def optsTellSpec : ChangeSpec := { name := "optsTell", fn := fun _ => fun
  | [d1, d2, d3, d4] => { results := [.lit (.bool true)], args := [d1, d2, d3, d4] }
  | _ => none }
def optsTellRow : OpenClaim := { program := "ytmilbkhkefbjkaa", sum := "68e951e5d8406455534b9681786d38a86e3c2a74fc6af0d899c2ca3660d8050e", func := "marline/marlinelaw14.OptsTell", spec := "optsTell", unfollowed := true, recurses := true, apart := false }
def OptsTellSaid : Prop := optsTellRow.holds Try.pinned (OpenSpec.ofChange optsTellSpec)

/-- ITS FALSE NEIGHBOUR: 'it returns false'. Refute it at one input. -/
def optsTellWrong : ChangeSpec := { name := "optsTell", fn := fun _ => fun
  | [d1, d2, d3, d4] => { results := [.lit (.bool false)], args := [d1, d2, d3, d4] }
  | _ => none }
def OptsTellWrongFalsely : Prop := optsTellRow.holds Try.pinned (OpenSpec.ofChange optsTellWrong)

/-- 'marlinelaw14.OptsSettle': WHATEVER THE INPUT: true; the input reads as it did. -/
def optsSettleSpec : ChangeSpec := { name := "optsSettle", fn := fun _ => fun
  | [d1, d2] => { results := [.lit (.bool true)], args := [d1, d2] }
  | _ => none }
def optsSettleRow : OpenClaim := { program := "ytmilbkhkefbjkaa", sum := "68e951e5d8406455534b9681786d38a86e3c2a74fc6af0d899c2ca3660d8050e", func := "marline/marlinelaw14.OptsSettle", spec := "optsSettle", unfollowed := true, recurses := true, apart := false }
def OptsSettleSaid : Prop := optsSettleRow.holds Try.pinned (OpenSpec.ofChange optsSettleSpec)

/-- ITS FALSE NEIGHBOUR: 'it returns false'. Refute it at one input. -/
def optsSettleWrong : ChangeSpec := { name := "optsSettle", fn := fun _ => fun
  | [d1, d2] => { results := [.lit (.bool false)], args := [d1, d2] }
  | _ => none }
def OptsSettleWrongFalsely : Prop := optsSettleRow.holds Try.pinned (OpenSpec.ofChange optsSettleWrong)

/-- 'marlinelaw14.OptsNums': WHATEVER THE INPUT: true; the input reads as it did. -/
def optsNumsSpec : ChangeSpec := { name := "optsNums", fn := fun _ => fun
  | [d1, d2, d3] => { results := [.lit (.bool true)], args := [d1, d2, d3] }
  | _ => none }
def optsNumsRow : OpenClaim := { program := "ytmilbkhkefbjkaa", sum := "68e951e5d8406455534b9681786d38a86e3c2a74fc6af0d899c2ca3660d8050e", func := "marline/marlinelaw14.OptsNums", spec := "optsNums", unfollowed := true, recurses := true, apart := false }
def OptsNumsSaid : Prop := optsNumsRow.holds Try.pinned (OpenSpec.ofChange optsNumsSpec)

/-- ITS FALSE NEIGHBOUR: 'it returns false'. Refute it at one input. -/
def optsNumsWrong : ChangeSpec := { name := "optsNums", fn := fun _ => fun
  | [d1, d2, d3] => { results := [.lit (.bool false)], args := [d1, d2, d3] }
  | _ => none }
def OptsNumsWrongFalsely : Prop := optsNumsRow.holds Try.pinned (OpenSpec.ofChange optsNumsWrong)

/-- 'marlinelaw14.OptsBack': WHATEVER THE INPUT: true; the input reads as it did. -/
def optsBackSpec : ChangeSpec := { name := "optsBack", fn := fun _ => fun
  | [d1, d2, d3] => { results := [.lit (.bool true)], args := [d1, d2, d3] }
  | _ => none }
def optsBackRow : OpenClaim := { program := "ytmilbkhkefbjkaa", sum := "68e951e5d8406455534b9681786d38a86e3c2a74fc6af0d899c2ca3660d8050e", func := "marline/marlinelaw14.OptsBack", spec := "optsBack", unfollowed := true, recurses := true, apart := false }
def OptsBackSaid : Prop := optsBackRow.holds Try.pinned (OpenSpec.ofChange optsBackSpec)

/-- ITS FALSE NEIGHBOUR: 'it returns false'. Refute it at one input. -/
def optsBackWrong : ChangeSpec := { name := "optsBack", fn := fun _ => fun
  | [d1, d2, d3] => { results := [.lit (.bool false)], args := [d1, d2, d3] }
  | _ => none }
def OptsBackWrongFalsely : Prop := optsBackRow.holds Try.pinned (OpenSpec.ofChange optsBackWrong)

/-- 'marlinelaw14.OptsParts': WHATEVER THE INPUT: true; the input reads as it did. -/
def optsPartsSpec : ChangeSpec := { name := "optsParts", fn := fun _ => fun
  | [d1, d2, d3] => { results := [.lit (.bool true)], args := [d1, d2, d3] }
  | _ => none }
def optsPartsRow : OpenClaim := { program := "ytmilbkhkefbjkaa", sum := "68e951e5d8406455534b9681786d38a86e3c2a74fc6af0d899c2ca3660d8050e", func := "marline/marlinelaw14.OptsParts", spec := "optsParts", unfollowed := true, recurses := true, apart := false }
def OptsPartsSaid : Prop := optsPartsRow.holds Try.pinned (OpenSpec.ofChange optsPartsSpec)

/-- ITS FALSE NEIGHBOUR: 'it returns false'. Refute it at one input. -/
def optsPartsWrong : ChangeSpec := { name := "optsParts", fn := fun _ => fun
  | [d1, d2, d3] => { results := [.lit (.bool false)], args := [d1, d2, d3] }
  | _ => none }
def OptsPartsWrongFalsely : Prop := optsPartsRow.holds Try.pinned (OpenSpec.ofChange optsPartsWrong)

/- THE SECOND FORM. 'bulk': how many values and letters a reading holds, each counted each time it is reached (what is shared counts as often as it is met; a slice's spare places count too). A statement '..UptoSaid' is the law's where the arguments, and the package variables that the reading takes, are together of bulk at most 1048576: NARROWER than '..Said'. Prove '..Said' where nothing that the law and all that it calls make is longer than what came in: it says more and counts as full. Else prove '..UptoSaid'. A law counts once. -/
mutual
def uptoBulk {H : Type} : DataW H → Nat
  | .lit (.string bytes) => bytes.length + 1
  | .lit _ => 1
  | .nil => 1
  | .ptr d => uptoBulk d + 1
  | .slice elems spare => uptoBulkAll elems + uptoBulkAll spare + 1
  | .agg parts => uptoBulkAll parts + 1
  | .iface _ d => uptoBulk d + 1
  | .map entries => uptoBulkEntries entries + 1
  | .held _ => 1
def uptoBulkAll {H : Type} : List (DataW H) → Nat
  | [] => 0
  | d :: r => uptoBulk d + uptoBulkAll r
def uptoBulkEntries {H : Type} : List (Lit × DataW H) → Nat
  | [] => 0
  | x :: r => uptoBulkEntry x + uptoBulkEntries r
def uptoBulkEntry {H : Type} : Lit × DataW H → Nat
  | (.string bytes, d) => bytes.length + uptoBulk d + 1
  | (_, d) => uptoBulk d + 1
 end
def uptoSmall : (H : Type) → List (DataW H) → Bool := fun _ ds => decide (uptoBulkAll ds ≤ 1048576)
def OpenSpec.upto (s : _root_.Go.ChangeSpec) : _root_.Go.OpenSpec := { _root_.Go.OpenSpec.ofChange s with cond := some uptoSmall }

/-- 'marlinelaw14.OptsTell', WHERE WHAT IT READS IS OF BULK AT MOST 1048576: true; the input reads as it did. -/
def optsTellUptoRow : OpenClaim := { program := "ytmilbkhkefbjkaa", sum := "68e951e5d8406455534b9681786d38a86e3c2a74fc6af0d899c2ca3660d8050e", func := "marline/marlinelaw14.OptsTell", spec := "optsTell", unfollowed := true, recurses := true, apart := false, narrowed := true }
def OptsTellUptoSaid : Prop := optsTellUptoRow.holds Try.pinned (OpenSpec.upto optsTellSpec)

/-- 'marlinelaw14.OptsSettle', WHERE WHAT IT READS IS OF BULK AT MOST 1048576: true; the input reads as it did. -/
def optsSettleUptoRow : OpenClaim := { program := "ytmilbkhkefbjkaa", sum := "68e951e5d8406455534b9681786d38a86e3c2a74fc6af0d899c2ca3660d8050e", func := "marline/marlinelaw14.OptsSettle", spec := "optsSettle", unfollowed := true, recurses := true, apart := false, narrowed := true }
def OptsSettleUptoSaid : Prop := optsSettleUptoRow.holds Try.pinned (OpenSpec.upto optsSettleSpec)

/-- 'marlinelaw14.OptsNums', WHERE WHAT IT READS IS OF BULK AT MOST 1048576: true; the input reads as it did. -/
def optsNumsUptoRow : OpenClaim := { program := "ytmilbkhkefbjkaa", sum := "68e951e5d8406455534b9681786d38a86e3c2a74fc6af0d899c2ca3660d8050e", func := "marline/marlinelaw14.OptsNums", spec := "optsNums", unfollowed := true, recurses := true, apart := false, narrowed := true }
def OptsNumsUptoSaid : Prop := optsNumsUptoRow.holds Try.pinned (OpenSpec.upto optsNumsSpec)

/-- 'marlinelaw14.OptsBack', WHERE WHAT IT READS IS OF BULK AT MOST 1048576: true; the input reads as it did. -/
def optsBackUptoRow : OpenClaim := { program := "ytmilbkhkefbjkaa", sum := "68e951e5d8406455534b9681786d38a86e3c2a74fc6af0d899c2ca3660d8050e", func := "marline/marlinelaw14.OptsBack", spec := "optsBack", unfollowed := true, recurses := true, apart := false, narrowed := true }
def OptsBackUptoSaid : Prop := optsBackUptoRow.holds Try.pinned (OpenSpec.upto optsBackSpec)

/-- 'marlinelaw14.OptsParts', WHERE WHAT IT READS IS OF BULK AT MOST 1048576: true; the input reads as it did. -/
def optsPartsUptoRow : OpenClaim := { program := "ytmilbkhkefbjkaa", sum := "68e951e5d8406455534b9681786d38a86e3c2a74fc6af0d899c2ca3660d8050e", func := "marline/marlinelaw14.OptsParts", spec := "optsParts", unfollowed := true, recurses := true, apart := false, narrowed := true }
def OptsPartsUptoSaid : Prop := optsPartsUptoRow.holds Try.pinned (OpenSpec.upto optsPartsSpec)

end Rows
end Go.Proofs.Ytmilbkhkefbjkaa
