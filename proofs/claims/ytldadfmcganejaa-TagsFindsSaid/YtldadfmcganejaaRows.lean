/-
  No cell of these rows narrows 'for every input' (looked for: loops, veiled, ifaces, maps, wideKeys, modest, calm, conditions, laid).
  DERIVED. THE GIVEN ROWS OF THIS SEAT. 4 by the template 'for every input the law returns true; each argument reads behind the call as it read before'; 0 by the template 'total and deterministic' (their statements: YtldadfmcganejaaTotals.lean).
  GIVEN WITH THE SEED: the statements are not yours to turn. If you find one false, say at which input.
  Laid BY PROGRAM, IN A SANDBOX (cutbox-rows.mjs): the forced cells as the released guide's own fill.sh prints them over the translation b98738416a654db4… (all of the seat's roots in one cut). By AI agents, Wed Nov 11 2026. No macro, syntax, notation, axiom, sorry.
-/
import Derived.Test.YtldadfmcganejaaChecked
import GoSem.Claim
import GoSem.ClaimJoined
import GoSem.ClaimMapViews
import Derived.JoinedTies
import Derived.KernelRfl
namespace Go.Proofs.Ytldadfmcganejaa
/- THE CELL 'sum', in the pinned program and in every row, IS THE sha256 OF THE DUMP (.gsa) THAT YtldadfmcganejaaProg.lean LOADS. Nothing in Lean hashes anything: it is a label: what it is worth is what the hold of that sum in a sandbox is worth. -/
noncomputable def Try.pinned : Pinned := { name := "ytldadfmcganejaa", sum := "b98738416a654db4a24a1ca88be337c008334b7d025bd4d0b28b6dfaedaa2f25", checked := Try.checked }
namespace Rows
def none {H : Type} : Left H := { results := [], args := [] }

/-- 'marlinelaw21.TagsTells': WHATEVER THE INPUT: true; the input reads as it did. -/
def tagsTellsSpec : ChangeSpec := { name := "tagsTells", fn := fun _ => fun
  | [d1, d2, d3] => { results := [.lit (.bool true)], args := [d1, d2, d3] }
  | _ => none }
def tagsTellsRow : OpenClaim := { program := "ytldadfmcganejaa", sum := "b98738416a654db4a24a1ca88be337c008334b7d025bd4d0b28b6dfaedaa2f25", func := "marline/marlinelaw21.TagsTells", spec := "tagsTells", recurses := true, apart := false }
def TagsTellsSaid : Prop := tagsTellsRow.holds Try.pinned (OpenSpec.ofChange tagsTellsSpec)

/-- ITS FALSE NEIGHBOUR: 'it returns false'. Refute it at one input. -/
def tagsTellsWrong : ChangeSpec := { name := "tagsTells", fn := fun _ => fun
  | [d1, d2, d3] => { results := [.lit (.bool false)], args := [d1, d2, d3] }
  | _ => none }
def TagsTellsWrongFalsely : Prop := tagsTellsRow.holds Try.pinned (OpenSpec.ofChange tagsTellsWrong)

/-- 'marlinelaw21.TagsBack': WHATEVER THE INPUT: true; the input reads as it did. -/
def tagsBackSpec : ChangeSpec := { name := "tagsBack", fn := fun _ => fun
  | [d1, d2] => { results := [.lit (.bool true)], args := [d1, d2] }
  | _ => none }
def tagsBackRow : OpenClaim := { program := "ytldadfmcganejaa", sum := "b98738416a654db4a24a1ca88be337c008334b7d025bd4d0b28b6dfaedaa2f25", func := "marline/marlinelaw21.TagsBack", spec := "tagsBack", apart := false }
def TagsBackSaid : Prop := tagsBackRow.holds Try.pinned (OpenSpec.ofChange tagsBackSpec)

/-- ITS FALSE NEIGHBOUR: 'it returns false'. Refute it at one input. -/
def tagsBackWrong : ChangeSpec := { name := "tagsBack", fn := fun _ => fun
  | [d1, d2] => { results := [.lit (.bool false)], args := [d1, d2] }
  | _ => none }
def TagsBackWrongFalsely : Prop := tagsBackRow.holds Try.pinned (OpenSpec.ofChange tagsBackWrong)

/-- 'marlinelaw21.TagsEnds': WHATEVER THE INPUT: true; the input reads as it did. -/
def tagsEndsSpec : ChangeSpec := { name := "tagsEnds", fn := fun _ => fun
  | [d1, d2, d3] => { results := [.lit (.bool true)], args := [d1, d2, d3] }
  | _ => none }
def tagsEndsRow : OpenClaim := { program := "ytldadfmcganejaa", sum := "b98738416a654db4a24a1ca88be337c008334b7d025bd4d0b28b6dfaedaa2f25", func := "marline/marlinelaw21.TagsEnds", spec := "tagsEnds", apart := false }
def TagsEndsSaid : Prop := tagsEndsRow.holds Try.pinned (OpenSpec.ofChange tagsEndsSpec)

/-- ITS FALSE NEIGHBOUR: 'it returns false'. Refute it at one input. -/
def tagsEndsWrong : ChangeSpec := { name := "tagsEnds", fn := fun _ => fun
  | [d1, d2, d3] => { results := [.lit (.bool false)], args := [d1, d2, d3] }
  | _ => none }
def TagsEndsWrongFalsely : Prop := tagsEndsRow.holds Try.pinned (OpenSpec.ofChange tagsEndsWrong)

/-- 'marlinelaw21.TagsFinds': WHATEVER THE INPUT: true; the input reads as it did. -/
def tagsFindsSpec : ChangeSpec := { name := "tagsFinds", fn := fun _ => fun
  | [d1, d2] => { results := [.lit (.bool true)], args := [d1, d2] }
  | _ => none }
def tagsFindsRow : OpenClaim := { program := "ytldadfmcganejaa", sum := "b98738416a654db4a24a1ca88be337c008334b7d025bd4d0b28b6dfaedaa2f25", func := "marline/marlinelaw21.TagsFinds", spec := "tagsFinds", unfollowed := true, recurses := true, apart := false }
def TagsFindsSaid : Prop := tagsFindsRow.holds Try.pinned (OpenSpec.ofChange tagsFindsSpec)

/-- ITS FALSE NEIGHBOUR: 'it returns false'. Refute it at one input. -/
def tagsFindsWrong : ChangeSpec := { name := "tagsFinds", fn := fun _ => fun
  | [d1, d2] => { results := [.lit (.bool false)], args := [d1, d2] }
  | _ => none }
def TagsFindsWrongFalsely : Prop := tagsFindsRow.holds Try.pinned (OpenSpec.ofChange tagsFindsWrong)

/- THE SECOND FORM. 'bulk': how many values and letters a reading holds, each counted each time it is reached (what is shared counts as often as it is met; a slice's spare places count too). A statement '..UptoSaid' is the law's where the arguments, and the package variables that the reading takes, are together of bulk at most 1048576: NARROWER than '..Said'. Prove '..Said' where nothing that the law and all that it calls make is longer than what came in: it says more and counts as full. Else prove '..UptoSaid'. A law counts once. -/
mutual
def uptoBulk {H : Type} : DataW H → Nat
  | .lit (.string bytes) => bytes.length + 1
  | .lit _ => 1
  | .nil => 1
  | .ptr d => uptoBulk d + 1
  | .slice elems spare => uptoBulkAll elems + uptoBulkAll spare + 1
  | .agg parts => uptoBulkAll parts + 1
  | .iface _ d => uptoBulk d + 1
  | .map entries => uptoBulkEntries entries + 1
  | .held _ => 1
def uptoBulkAll {H : Type} : List (DataW H) → Nat
  | [] => 0
  | d :: r => uptoBulk d + uptoBulkAll r
def uptoBulkEntries {H : Type} : List (Lit × DataW H) → Nat
  | [] => 0
  | x :: r => uptoBulkEntry x + uptoBulkEntries r
def uptoBulkEntry {H : Type} : Lit × DataW H → Nat
  | (.string bytes, d) => bytes.length + uptoBulk d + 1
  | (_, d) => uptoBulk d + 1
 end
def uptoSmall : (H : Type) → List (DataW H) → Bool := fun _ ds => decide (uptoBulkAll ds ≤ 1048576)
def OpenSpec.upto (s : _root_.Go.ChangeSpec) : _root_.Go.OpenSpec := { _root_.Go.OpenSpec.ofChange s with cond := some uptoSmall }

/-- 'marlinelaw21.TagsTells', WHERE WHAT IT READS IS OF BULK AT MOST 1048576: true; the input reads as it did. -/
def tagsTellsUptoRow : OpenClaim := { program := "ytldadfmcganejaa", sum := "b98738416a654db4a24a1ca88be337c008334b7d025bd4d0b28b6dfaedaa2f25", func := "marline/marlinelaw21.TagsTells", spec := "tagsTells", recurses := true, apart := false, narrowed := true }
def TagsTellsUptoSaid : Prop := tagsTellsUptoRow.holds Try.pinned (OpenSpec.upto tagsTellsSpec)

/-- 'marlinelaw21.TagsBack', WHERE WHAT IT READS IS OF BULK AT MOST 1048576: true; the input reads as it did. -/
def tagsBackUptoRow : OpenClaim := { program := "ytldadfmcganejaa", sum := "b98738416a654db4a24a1ca88be337c008334b7d025bd4d0b28b6dfaedaa2f25", func := "marline/marlinelaw21.TagsBack", spec := "tagsBack", apart := false, narrowed := true }
def TagsBackUptoSaid : Prop := tagsBackUptoRow.holds Try.pinned (OpenSpec.upto tagsBackSpec)

/-- 'marlinelaw21.TagsEnds', WHERE WHAT IT READS IS OF BULK AT MOST 1048576: true; the input reads as it did. -/
def tagsEndsUptoRow : OpenClaim := { program := "ytldadfmcganejaa", sum := "b98738416a654db4a24a1ca88be337c008334b7d025bd4d0b28b6dfaedaa2f25", func := "marline/marlinelaw21.TagsEnds", spec := "tagsEnds", apart := false, narrowed := true }
def TagsEndsUptoSaid : Prop := tagsEndsUptoRow.holds Try.pinned (OpenSpec.upto tagsEndsSpec)

/-- 'marlinelaw21.TagsFinds', WHERE WHAT IT READS IS OF BULK AT MOST 1048576: true; the input reads as it did. -/
def tagsFindsUptoRow : OpenClaim := { program := "ytldadfmcganejaa", sum := "b98738416a654db4a24a1ca88be337c008334b7d025bd4d0b28b6dfaedaa2f25", func := "marline/marlinelaw21.TagsFinds", spec := "tagsFinds", unfollowed := true, recurses := true, apart := false, narrowed := true }
def TagsFindsUptoSaid : Prop := tagsFindsUptoRow.holds Try.pinned (OpenSpec.upto tagsFindsSpec)

end Rows
end Go.Proofs.Ytldadfmcganejaa
