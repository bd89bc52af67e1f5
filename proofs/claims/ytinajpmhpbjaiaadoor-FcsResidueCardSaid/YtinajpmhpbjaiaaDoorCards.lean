/-
  DERIVED. GIVEN WITH THE SEED: THE CARDS: each row of YtinajpmhpbjaiaaDoorRows.lean that lists a variable, with what it lists TIED to the program's text (the seventh form; the later family's looks); each row that meets fmt, with fmt's text TOLD by the authors' own Lean function (tested against real Go, not proved from fmt's source: count such statements apart). THE CARD IS WHAT COUNTS. Prove the row's statement (the work); the ties are given (YtinajpmhpbjaiaaDoorTie.lean); close each card by the builder's one call (the guide's Derived/Test/ToyasCard.lean, 'card_holds'). Laid BY PROGRAM, IN A SANDBOX (cutbox-door.mjs). By AI agents, Wed Nov 11 2026. No macro, syntax, notation, axiom, sorry.
-/
import Derived.Test.YtinajpmhpbjaiaaDoorRows
import GoSem.ClaimSeven
namespace Go.Proofs.YtinajpmhpbjaiaaDoor
namespace Rows

/-- THE TIED CARD OF 'marlinelaw02.FcsSums'. -/
def fcsSumsCard : Claim7 := { stood := { row := fcsSumsRow, standIns := [], harness := (true, "d36a90ac71dfbba8544d49be0868f0314f531d04a13fd40ec22aaf35ec764cde"), looks := false }, kinds := [], alts := [], laidByText := true, laidKinds := [.called, .data], laidTests := true, laidLooks := .later }
def FcsSumsCardSaid : Prop := Claim7.holds Tryd.pinned (.plain (OpenSpec.ofChange fcsSumsSpec)) fcsSumsCard

/-- THE TIED CARD OF 'marlinelaw02.FcsMore'. -/
def fcsMoreCard : Claim7 := { stood := { row := fcsMoreRow, standIns := [], harness := (true, "d36a90ac71dfbba8544d49be0868f0314f531d04a13fd40ec22aaf35ec764cde"), looks := false }, kinds := [], alts := [], laidByText := true, laidKinds := [.called, .data], laidTests := true, laidLooks := .later }
def FcsMoreCardSaid : Prop := Claim7.holds Tryd.pinned (.plain (OpenSpec.ofChange fcsMoreSpec)) fcsMoreCard

/-- THE TIED CARD OF 'marlinelaw02.FcsResidue'. -/
def fcsResidueCard : Claim7 := { stood := { row := fcsResidueRow, standIns := [], harness := (true, "d36a90ac71dfbba8544d49be0868f0314f531d04a13fd40ec22aaf35ec764cde"), looks := false }, kinds := [], alts := [], laidByText := true, laidKinds := [.called, .data], laidTests := true, laidLooks := .later }
def FcsResidueCardSaid : Prop := Claim7.holds Tryd.pinned (.plain (OpenSpec.ofChange fcsResidueSpec)) fcsResidueCard

/-- THE TIED CARD OF 'marlinelaw02.FcsBursts'. -/
def fcsBurstsCard : Claim7 := { stood := { row := fcsBurstsRow, standIns := [], harness := (true, "d36a90ac71dfbba8544d49be0868f0314f531d04a13fd40ec22aaf35ec764cde"), looks := false }, kinds := [], alts := [], laidByText := true, laidKinds := [.called, .data], laidTests := true, laidLooks := .later }
def FcsBurstsCardSaid : Prop := Claim7.holds Tryd.pinned (.plain (OpenSpec.ofChange fcsBurstsSpec)) fcsBurstsCard

/-- THE TIED CARD OF 'marlinelaw02.FcsSums2'. -/
def fcsSums2Card : Claim7 := { stood := { row := fcsSums2Row, standIns := [], harness := (true, "d36a90ac71dfbba8544d49be0868f0314f531d04a13fd40ec22aaf35ec764cde"), looks := false }, kinds := [], alts := [], laidByText := true, laidKinds := [.called, .data], laidTests := true, laidLooks := .later }
def FcsSums2CardSaid : Prop := Claim7.holds Tryd.pinned (.plain (OpenSpec.ofChange fcsSums2Spec)) fcsSums2Card

/-- THE SECOND FORM's CARD OF 'marlinelaw02.FcsSums'. -/
def fcsSumsUptoCard : Claim7 := { stood := { row := fcsSumsUptoRow, standIns := [], harness := (true, "d36a90ac71dfbba8544d49be0868f0314f531d04a13fd40ec22aaf35ec764cde"), looks := false }, kinds := [], alts := [], laidByText := true, laidKinds := [.called, .data], laidTests := true, laidLooks := .later }
def FcsSumsUptoCardSaid : Prop := Claim7.holds Tryd.pinned (.plain (OpenSpec.upto fcsSumsSpec)) fcsSumsUptoCard

/-- THE SECOND FORM's CARD OF 'marlinelaw02.FcsMore'. -/
def fcsMoreUptoCard : Claim7 := { stood := { row := fcsMoreUptoRow, standIns := [], harness := (true, "d36a90ac71dfbba8544d49be0868f0314f531d04a13fd40ec22aaf35ec764cde"), looks := false }, kinds := [], alts := [], laidByText := true, laidKinds := [.called, .data], laidTests := true, laidLooks := .later }
def FcsMoreUptoCardSaid : Prop := Claim7.holds Tryd.pinned (.plain (OpenSpec.upto fcsMoreSpec)) fcsMoreUptoCard

/-- THE SECOND FORM's CARD OF 'marlinelaw02.FcsResidue'. -/
def fcsResidueUptoCard : Claim7 := { stood := { row := fcsResidueUptoRow, standIns := [], harness := (true, "d36a90ac71dfbba8544d49be0868f0314f531d04a13fd40ec22aaf35ec764cde"), looks := false }, kinds := [], alts := [], laidByText := true, laidKinds := [.called, .data], laidTests := true, laidLooks := .later }
def FcsResidueUptoCardSaid : Prop := Claim7.holds Tryd.pinned (.plain (OpenSpec.upto fcsResidueSpec)) fcsResidueUptoCard

/-- THE SECOND FORM's CARD OF 'marlinelaw02.FcsBursts'. -/
def fcsBurstsUptoCard : Claim7 := { stood := { row := fcsBurstsUptoRow, standIns := [], harness := (true, "d36a90ac71dfbba8544d49be0868f0314f531d04a13fd40ec22aaf35ec764cde"), looks := false }, kinds := [], alts := [], laidByText := true, laidKinds := [.called, .data], laidTests := true, laidLooks := .later }
def FcsBurstsUptoCardSaid : Prop := Claim7.holds Tryd.pinned (.plain (OpenSpec.upto fcsBurstsSpec)) fcsBurstsUptoCard

/-- THE SECOND FORM's CARD OF 'marlinelaw02.FcsSums2'. -/
def fcsSums2UptoCard : Claim7 := { stood := { row := fcsSums2UptoRow, standIns := [], harness := (true, "d36a90ac71dfbba8544d49be0868f0314f531d04a13fd40ec22aaf35ec764cde"), looks := false }, kinds := [], alts := [], laidByText := true, laidKinds := [.called, .data], laidTests := true, laidLooks := .later }
def FcsSums2UptoCardSaid : Prop := Claim7.holds Tryd.pinned (.plain (OpenSpec.upto fcsSums2Spec)) fcsSums2UptoCard
end Rows
end Go.Proofs.YtinajpmhpbjaiaaDoor
