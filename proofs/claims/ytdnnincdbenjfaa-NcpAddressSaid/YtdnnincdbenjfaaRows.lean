/-
  No cell of these rows narrows 'for every input' (looked for: loops, veiled, ifaces, maps, wideKeys, modest, calm, conditions, laid).
  DERIVED. THE GIVEN ROWS OF THIS SEAT. 3 by the template 'for every input the law returns true; each argument reads behind the call as it read before'; 0 by the template 'total and deterministic' (their statements: YtdnnincdbenjfaaTotals.lean).
  GIVEN WITH THE SEED: the statements are not yours to turn. If you find one false, say at which input.
  Laid BY PROGRAM, IN A SANDBOX (cutbox-rows.mjs): the forced cells as the released guide's own fill.sh prints them over the translation 86e1aedb66d284ff… (all of the seat's roots in one cut). By AI agents, Wed Nov 11 2026. No macro, syntax, notation, axiom, sorry.
-/
import Derived.Test.YtdnnincdbenjfaaChecked
import GoSem.Claim
import GoSem.ClaimJoined
import GoSem.ClaimMapViews
import Derived.JoinedTies
import Derived.KernelRfl
namespace Go.Proofs.Ytdnnincdbenjfaa
/- THE CELL 'sum', in the pinned program and in every row, IS THE sha256 OF THE DUMP (.gsa) THAT YtdnnincdbenjfaaProg.lean LOADS. Nothing in Lean hashes anything: it is a label: what it is worth is what the hold of that sum in a sandbox is worth. -/
noncomputable def Try.pinned : Pinned := { name := "ytdnnincdbenjfaa", sum := "86e1aedb66d284ff4b9cb6576e926e2874f6edb3152803207dd7ef53f289b673", checked := Try.checked }
namespace Rows
def none {H : Type} : Left H := { results := [], args := [] }

/-- 'marlinelaw16.NcpTells': WHATEVER THE INPUT: true; the input reads as it did. -/
def ncpTellsSpec : ChangeSpec := { name := "ncpTells", fn := fun _ => fun
  | [d1, d2, d3] => { results := [.lit (.bool true)], args := [d1, d2, d3] }
  | _ => none }
def ncpTellsRow : OpenClaim := { program := "ytdnnincdbenjfaa", sum := "86e1aedb66d284ff4b9cb6576e926e2874f6edb3152803207dd7ef53f289b673", func := "marline/marlinelaw16.NcpTells", spec := "ncpTells", unfollowed := true, recurses := true, apart := false }
def NcpTellsSaid : Prop := ncpTellsRow.holds Try.pinned (OpenSpec.ofChange ncpTellsSpec)

/-- ITS FALSE NEIGHBOUR: 'it returns false'. Refute it at one input. -/
def ncpTellsWrong : ChangeSpec := { name := "ncpTells", fn := fun _ => fun
  | [d1, d2, d3] => { results := [.lit (.bool false)], args := [d1, d2, d3] }
  | _ => none }
def NcpTellsWrongFalsely : Prop := ncpTellsRow.holds Try.pinned (OpenSpec.ofChange ncpTellsWrong)

/-- 'marlinelaw16.NcpBack': WHATEVER THE INPUT: true; the input reads as it did. -/
def ncpBackSpec : ChangeSpec := { name := "ncpBack", fn := fun _ => fun
  | [d1, d2, d3, d4] => { results := [.lit (.bool true)], args := [d1, d2, d3, d4] }
  | _ => none }
def ncpBackRow : OpenClaim := { program := "ytdnnincdbenjfaa", sum := "86e1aedb66d284ff4b9cb6576e926e2874f6edb3152803207dd7ef53f289b673", func := "marline/marlinelaw16.NcpBack", spec := "ncpBack", unfollowed := true, recurses := true, apart := false }
def NcpBackSaid : Prop := ncpBackRow.holds Try.pinned (OpenSpec.ofChange ncpBackSpec)

/-- ITS FALSE NEIGHBOUR: 'it returns false'. Refute it at one input. -/
def ncpBackWrong : ChangeSpec := { name := "ncpBack", fn := fun _ => fun
  | [d1, d2, d3, d4] => { results := [.lit (.bool false)], args := [d1, d2, d3, d4] }
  | _ => none }
def NcpBackWrongFalsely : Prop := ncpBackRow.holds Try.pinned (OpenSpec.ofChange ncpBackWrong)

/-- 'marlinelaw16.NcpAddress': WHATEVER THE INPUT: true; the input reads as it did. -/
def ncpAddressSpec : ChangeSpec := { name := "ncpAddress", fn := fun _ => fun
  | [d1, d2, d3] => { results := [.lit (.bool true)], args := [d1, d2, d3] }
  | _ => none }
def ncpAddressRow : OpenClaim := { program := "ytdnnincdbenjfaa", sum := "86e1aedb66d284ff4b9cb6576e926e2874f6edb3152803207dd7ef53f289b673", func := "marline/marlinelaw16.NcpAddress", spec := "ncpAddress", unfollowed := true, recurses := true, apart := false }
def NcpAddressSaid : Prop := ncpAddressRow.holds Try.pinned (OpenSpec.ofChange ncpAddressSpec)

/-- ITS FALSE NEIGHBOUR: 'it returns false'. Refute it at one input. -/
def ncpAddressWrong : ChangeSpec := { name := "ncpAddress", fn := fun _ => fun
  | [d1, d2, d3] => { results := [.lit (.bool false)], args := [d1, d2, d3] }
  | _ => none }
def NcpAddressWrongFalsely : Prop := ncpAddressRow.holds Try.pinned (OpenSpec.ofChange ncpAddressWrong)

/- THE SECOND FORM. 'bulk': how many values and letters a reading holds, each counted each time it is reached (what is shared counts as often as it is met; a slice's spare places count too). A statement '..UptoSaid' is the law's where the arguments, and the package variables that the reading takes, are together of bulk at most 1048576: NARROWER than '..Said'. Prove '..Said' where nothing that the law and all that it calls make is longer than what came in: it says more and counts as full. Else prove '..UptoSaid'. A law counts once. -/
mutual
def uptoBulk {H : Type} : DataW H → Nat
  | .lit (.string bytes) => bytes.length + 1
  | .lit _ => 1
  | .nil => 1
  | .ptr d => uptoBulk d + 1
  | .slice elems spare => uptoBulkAll elems + uptoBulkAll spare + 1
  | .agg parts => uptoBulkAll parts + 1
  | .iface _ d => uptoBulk d + 1
  | .map entries => uptoBulkEntries entries + 1
  | .held _ => 1
def uptoBulkAll {H : Type} : List (DataW H) → Nat
  | [] => 0
  | d :: r => uptoBulk d + uptoBulkAll r
def uptoBulkEntries {H : Type} : List (Lit × DataW H) → Nat
  | [] => 0
  | x :: r => uptoBulkEntry x + uptoBulkEntries r
def uptoBulkEntry {H : Type} : Lit × DataW H → Nat
  | (.string bytes, d) => bytes.length + uptoBulk d + 1
  | (_, d) => uptoBulk d + 1
 end
def uptoSmall : (H : Type) → List (DataW H) → Bool := fun _ ds => decide (uptoBulkAll ds ≤ 1048576)
def OpenSpec.upto (s : _root_.Go.ChangeSpec) : _root_.Go.OpenSpec := { _root_.Go.OpenSpec.ofChange s with cond := some uptoSmall }

/-- 'marlinelaw16.NcpTells', WHERE WHAT IT READS IS OF BULK AT MOST 1048576: true; the input reads as it did. -/
def ncpTellsUptoRow : OpenClaim := { program := "ytdnnincdbenjfaa", sum := "86e1aedb66d284ff4b9cb6576e926e2874f6edb3152803207dd7ef53f289b673", func := "marline/marlinelaw16.NcpTells", spec := "ncpTells", unfollowed := true, recurses := true, apart := false, narrowed := true }
def NcpTellsUptoSaid : Prop := ncpTellsUptoRow.holds Try.pinned (OpenSpec.upto ncpTellsSpec)

/-- 'marlinelaw16.NcpBack', WHERE WHAT IT READS IS OF BULK AT MOST 1048576: true; the input reads as it did. -/
def ncpBackUptoRow : OpenClaim := { program := "ytdnnincdbenjfaa", sum := "86e1aedb66d284ff4b9cb6576e926e2874f6edb3152803207dd7ef53f289b673", func := "marline/marlinelaw16.NcpBack", spec := "ncpBack", unfollowed := true, recurses := true, apart := false, narrowed := true }
def NcpBackUptoSaid : Prop := ncpBackUptoRow.holds Try.pinned (OpenSpec.upto ncpBackSpec)

/-- 'marlinelaw16.NcpAddress', WHERE WHAT IT READS IS OF BULK AT MOST 1048576: true; the input reads as it did. -/
def ncpAddressUptoRow : OpenClaim := { program := "ytdnnincdbenjfaa", sum := "86e1aedb66d284ff4b9cb6576e926e2874f6edb3152803207dd7ef53f289b673", func := "marline/marlinelaw16.NcpAddress", spec := "ncpAddress", unfollowed := true, recurses := true, apart := false, narrowed := true }
def NcpAddressUptoSaid : Prop := ncpAddressUptoRow.holds Try.pinned (OpenSpec.upto ncpAddressSpec)

end Rows
end Go.Proofs.Ytdnnincdbenjfaa
