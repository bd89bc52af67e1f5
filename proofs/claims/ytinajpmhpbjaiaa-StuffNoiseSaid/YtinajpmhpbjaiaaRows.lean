/-
  No cell of these rows narrows 'for every input' (looked for: loops, veiled, ifaces, maps, wideKeys, modest, calm, conditions, laid).
  DERIVED. THE GIVEN ROWS OF THIS SEAT. 5 by the template 'for every input the law returns true; each argument reads behind the call as it read before'; 0 by the template 'total and deterministic' (their statements: YtinajpmhpbjaiaaTotals.lean).
  GIVEN WITH THE SEED: the statements are not yours to turn. If you find one false, say at which input.
  Laid BY PROGRAM, IN A SANDBOX (cutbox-rows.mjs): the forced cells as the released guide's own fill.sh prints them over the translation e38b5d92d89de31d… (all of the seat's roots in one cut). By AI agents, Wed Nov 11 2026. No macro, syntax, notation, axiom, sorry.
-/
import Derived.Test.YtinajpmhpbjaiaaChecked
import GoSem.Claim
import GoSem.ClaimJoined
import GoSem.ClaimMapViews
import Derived.JoinedTies
import Derived.KernelRfl
namespace Go.Proofs.Ytinajpmhpbjaiaa
/- THE CELL 'sum', in the pinned program and in every row, IS THE sha256 OF THE DUMP (.gsa) THAT YtinajpmhpbjaiaaProg.lean LOADS. Nothing in Lean hashes anything: it is a label: what it is worth is what the hold of that sum in a sandbox is worth. -/
noncomputable def Try.pinned : Pinned := { name := "ytinajpmhpbjaiaa", sum := "e38b5d92d89de31dc332b203b54c8f7428bf5b40069b83e7fec4d7367980cd30", checked := Try.checked }
namespace Rows
def none {H : Type} : Left H := { results := [], args := [] }

/-- 'marlinelaw04.StuffTells': WHATEVER THE INPUT: true; the input reads as it did. -/
def stuffTellsSpec : ChangeSpec := { name := "stuffTells", fn := fun _ => fun
  | [d1, d2] => { results := [.lit (.bool true)], args := [d1, d2] }
  | _ => none }
def stuffTellsRow : OpenClaim := { program := "ytinajpmhpbjaiaa", sum := "e38b5d92d89de31dc332b203b54c8f7428bf5b40069b83e7fec4d7367980cd30", func := "marline/marlinelaw04.StuffTells", spec := "stuffTells", inPlace := ["internal/bytealg.IndexByte"], unfollowed := true, recurses := true, apart := false }
def StuffTellsSaid : Prop := stuffTellsRow.holds Try.pinned (OpenSpec.ofChange stuffTellsSpec)

/-- ITS FALSE NEIGHBOUR: 'it returns false'. Refute it at one input. -/
def stuffTellsWrong : ChangeSpec := { name := "stuffTells", fn := fun _ => fun
  | [d1, d2] => { results := [.lit (.bool false)], args := [d1, d2] }
  | _ => none }
def StuffTellsWrongFalsely : Prop := stuffTellsRow.holds Try.pinned (OpenSpec.ofChange stuffTellsWrong)

/-- 'marlinelaw04.StuffBack': WHATEVER THE INPUT: true; the input reads as it did. -/
def stuffBackSpec : ChangeSpec := { name := "stuffBack", fn := fun _ => fun
  | [d1, d2, d3] => { results := [.lit (.bool true)], args := [d1, d2, d3] }
  | _ => none }
def stuffBackRow : OpenClaim := { program := "ytinajpmhpbjaiaa", sum := "e38b5d92d89de31dc332b203b54c8f7428bf5b40069b83e7fec4d7367980cd30", func := "marline/marlinelaw04.StuffBack", spec := "stuffBack", inPlace := ["internal/bytealg.IndexByte"], unfollowed := true, recurses := true, apart := false }
def StuffBackSaid : Prop := stuffBackRow.holds Try.pinned (OpenSpec.ofChange stuffBackSpec)

/-- ITS FALSE NEIGHBOUR: 'it returns false'. Refute it at one input. -/
def stuffBackWrong : ChangeSpec := { name := "stuffBack", fn := fun _ => fun
  | [d1, d2, d3] => { results := [.lit (.bool false)], args := [d1, d2, d3] }
  | _ => none }
def StuffBackWrongFalsely : Prop := stuffBackRow.holds Try.pinned (OpenSpec.ofChange stuffBackWrong)

/-- 'marlinelaw04.StuffLeast': WHATEVER THE INPUT: true; the input reads as it did. -/
def stuffLeastSpec : ChangeSpec := { name := "stuffLeast", fn := fun _ => fun
  | [d1, d2] => { results := [.lit (.bool true)], args := [d1, d2] }
  | _ => none }
def stuffLeastRow : OpenClaim := { program := "ytinajpmhpbjaiaa", sum := "e38b5d92d89de31dc332b203b54c8f7428bf5b40069b83e7fec4d7367980cd30", func := "marline/marlinelaw04.StuffLeast", spec := "stuffLeast", inPlace := ["internal/bytealg.IndexByte"], unfollowed := true, recurses := true, apart := false }
def StuffLeastSaid : Prop := stuffLeastRow.holds Try.pinned (OpenSpec.ofChange stuffLeastSpec)

/-- ITS FALSE NEIGHBOUR: 'it returns false'. Refute it at one input. -/
def stuffLeastWrong : ChangeSpec := { name := "stuffLeast", fn := fun _ => fun
  | [d1, d2] => { results := [.lit (.bool false)], args := [d1, d2] }
  | _ => none }
def StuffLeastWrongFalsely : Prop := stuffLeastRow.holds Try.pinned (OpenSpec.ofChange stuffLeastWrong)

/-- 'marlinelaw04.StuffNoise': WHATEVER THE INPUT: true; the input reads as it did. -/
def stuffNoiseSpec : ChangeSpec := { name := "stuffNoise", fn := fun _ => fun
  | [d1, d2, d3] => { results := [.lit (.bool true)], args := [d1, d2, d3] }
  | _ => none }
def stuffNoiseRow : OpenClaim := { program := "ytinajpmhpbjaiaa", sum := "e38b5d92d89de31dc332b203b54c8f7428bf5b40069b83e7fec4d7367980cd30", func := "marline/marlinelaw04.StuffNoise", spec := "stuffNoise", inPlace := ["internal/bytealg.IndexByte"], unfollowed := true, recurses := true, apart := false }
def StuffNoiseSaid : Prop := stuffNoiseRow.holds Try.pinned (OpenSpec.ofChange stuffNoiseSpec)

/-- ITS FALSE NEIGHBOUR: 'it returns false'. Refute it at one input. -/
def stuffNoiseWrong : ChangeSpec := { name := "stuffNoise", fn := fun _ => fun
  | [d1, d2, d3] => { results := [.lit (.bool false)], args := [d1, d2, d3] }
  | _ => none }
def StuffNoiseWrongFalsely : Prop := stuffNoiseRow.holds Try.pinned (OpenSpec.ofChange stuffNoiseWrong)

/-- 'marlinelaw04.StuffJoin': WHATEVER THE INPUT: true; the input reads as it did. -/
def stuffJoinSpec : ChangeSpec := { name := "stuffJoin", fn := fun _ => fun
  | [d1, d2, d3] => { results := [.lit (.bool true)], args := [d1, d2, d3] }
  | _ => none }
def stuffJoinRow : OpenClaim := { program := "ytinajpmhpbjaiaa", sum := "e38b5d92d89de31dc332b203b54c8f7428bf5b40069b83e7fec4d7367980cd30", func := "marline/marlinelaw04.StuffJoin", spec := "stuffJoin", inPlace := ["internal/bytealg.IndexByte"], unfollowed := true, recurses := true, apart := false }
def StuffJoinSaid : Prop := stuffJoinRow.holds Try.pinned (OpenSpec.ofChange stuffJoinSpec)

/-- ITS FALSE NEIGHBOUR: 'it returns false'. Refute it at one input. -/
def stuffJoinWrong : ChangeSpec := { name := "stuffJoin", fn := fun _ => fun
  | [d1, d2, d3] => { results := [.lit (.bool false)], args := [d1, d2, d3] }
  | _ => none }
def StuffJoinWrongFalsely : Prop := stuffJoinRow.holds Try.pinned (OpenSpec.ofChange stuffJoinWrong)

/- THE SECOND FORM. 'bulk': how many values and letters a reading holds, each counted each time it is reached (what is shared counts as often as it is met; a slice's spare places count too). A statement '..UptoSaid' is the law's where the arguments, and the package variables that the reading takes, are together of bulk at most 1048576: NARROWER than '..Said'. Prove '..Said' where nothing that the law and all that it calls make is longer than what came in: it says more and counts as full. Else prove '..UptoSaid'. A law counts once. -/
mutual
def uptoBulk {H : Type} : DataW H → Nat
  | .lit (.string bytes) => bytes.length + 1
  | .lit _ => 1
  | .nil => 1
  | .ptr d => uptoBulk d + 1
  | .slice elems spare => uptoBulkAll elems + uptoBulkAll spare + 1
  | .agg parts => uptoBulkAll parts + 1
  | .iface _ d => uptoBulk d + 1
  | .map entries => uptoBulkEntries entries + 1
  | .held _ => 1
def uptoBulkAll {H : Type} : List (DataW H) → Nat
  | [] => 0
  | d :: r => uptoBulk d + uptoBulkAll r
def uptoBulkEntries {H : Type} : List (Lit × DataW H) → Nat
  | [] => 0
  | x :: r => uptoBulkEntry x + uptoBulkEntries r
def uptoBulkEntry {H : Type} : Lit × DataW H → Nat
  | (.string bytes, d) => bytes.length + uptoBulk d + 1
  | (_, d) => uptoBulk d + 1
 end
def uptoSmall : (H : Type) → List (DataW H) → Bool := fun _ ds => decide (uptoBulkAll ds ≤ 1048576)
def OpenSpec.upto (s : _root_.Go.ChangeSpec) : _root_.Go.OpenSpec := { _root_.Go.OpenSpec.ofChange s with cond := some uptoSmall }

/-- 'marlinelaw04.StuffTells', WHERE WHAT IT READS IS OF BULK AT MOST 1048576: true; the input reads as it did. -/
def stuffTellsUptoRow : OpenClaim := { program := "ytinajpmhpbjaiaa", sum := "e38b5d92d89de31dc332b203b54c8f7428bf5b40069b83e7fec4d7367980cd30", func := "marline/marlinelaw04.StuffTells", spec := "stuffTells", inPlace := ["internal/bytealg.IndexByte"], unfollowed := true, recurses := true, apart := false, narrowed := true }
def StuffTellsUptoSaid : Prop := stuffTellsUptoRow.holds Try.pinned (OpenSpec.upto stuffTellsSpec)

/-- 'marlinelaw04.StuffBack', WHERE WHAT IT READS IS OF BULK AT MOST 1048576: true; the input reads as it did. -/
def stuffBackUptoRow : OpenClaim := { program := "ytinajpmhpbjaiaa", sum := "e38b5d92d89de31dc332b203b54c8f7428bf5b40069b83e7fec4d7367980cd30", func := "marline/marlinelaw04.StuffBack", spec := "stuffBack", inPlace := ["internal/bytealg.IndexByte"], unfollowed := true, recurses := true, apart := false, narrowed := true }
def StuffBackUptoSaid : Prop := stuffBackUptoRow.holds Try.pinned (OpenSpec.upto stuffBackSpec)

/-- 'marlinelaw04.StuffLeast', WHERE WHAT IT READS IS OF BULK AT MOST 1048576: true; the input reads as it did. -/
def stuffLeastUptoRow : OpenClaim := { program := "ytinajpmhpbjaiaa", sum := "e38b5d92d89de31dc332b203b54c8f7428bf5b40069b83e7fec4d7367980cd30", func := "marline/marlinelaw04.StuffLeast", spec := "stuffLeast", inPlace := ["internal/bytealg.IndexByte"], unfollowed := true, recurses := true, apart := false, narrowed := true }
def StuffLeastUptoSaid : Prop := stuffLeastUptoRow.holds Try.pinned (OpenSpec.upto stuffLeastSpec)

/-- 'marlinelaw04.StuffNoise', WHERE WHAT IT READS IS OF BULK AT MOST 1048576: true; the input reads as it did. -/
def stuffNoiseUptoRow : OpenClaim := { program := "ytinajpmhpbjaiaa", sum := "e38b5d92d89de31dc332b203b54c8f7428bf5b40069b83e7fec4d7367980cd30", func := "marline/marlinelaw04.StuffNoise", spec := "stuffNoise", inPlace := ["internal/bytealg.IndexByte"], unfollowed := true, recurses := true, apart := false, narrowed := true }
def StuffNoiseUptoSaid : Prop := stuffNoiseUptoRow.holds Try.pinned (OpenSpec.upto stuffNoiseSpec)

/-- 'marlinelaw04.StuffJoin', WHERE WHAT IT READS IS OF BULK AT MOST 1048576: true; the input reads as it did. -/
def stuffJoinUptoRow : OpenClaim := { program := "ytinajpmhpbjaiaa", sum := "e38b5d92d89de31dc332b203b54c8f7428bf5b40069b83e7fec4d7367980cd30", func := "marline/marlinelaw04.StuffJoin", spec := "stuffJoin", inPlace := ["internal/bytealg.IndexByte"], unfollowed := true, recurses := true, apart := false, narrowed := true }
def StuffJoinUptoSaid : Prop := stuffJoinUptoRow.holds Try.pinned (OpenSpec.upto stuffJoinSpec)

end Rows
end Go.Proofs.Ytinajpmhpbjaiaa
