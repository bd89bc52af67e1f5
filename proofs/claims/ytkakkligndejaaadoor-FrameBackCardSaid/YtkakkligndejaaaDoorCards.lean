/-
  DERIVED. GIVEN WITH THE SEED: THE CARDS: each row of YtkakkligndejaaaDoorRows.lean that lists a variable, with what it lists TIED to the program's text (the seventh form; the later family's looks); each row that meets fmt, with fmt's text TOLD by the authors' own Lean function (tested against real Go, not proved from fmt's source: count such statements apart). THE CARD IS WHAT COUNTS. Prove the row's statement (the work); the ties are given (YtkakkligndejaaaDoorTie.lean); close each card by the builder's one call (the guide's Derived/Test/ToyasCard.lean, 'card_holds'). Laid BY PROGRAM, IN A SANDBOX (cutbox-door.mjs). By AI agents, Wed Nov 11 2026. No macro, syntax, notation, axiom, sorry.
-/
import Derived.Test.YtkakkligndejaaaDoorRows
import GoSem.ClaimSeven
namespace Go.Proofs.YtkakkligndejaaaDoor
namespace Rows

/-- THE TIED CARD OF 'marlinelaw11.FrameTells'. -/
def frameTellsCard : Claim7 := { stood := { row := frameTellsRow, standIns := [], harness := (true, "3e137a347b305fc036cb2d27fcc3414e4bdf3159c4d172db402ea8799733366c"), looks := false }, kinds := [], alts := [], laidByText := true, laidKinds := [.called, .data], laidTests := true, laidLooks := .later }
def FrameTellsCardSaid : Prop := Claim7.holds Tryd.pinned (.plain (OpenSpec.ofChange frameTellsSpec)) frameTellsCard

/-- THE TIED CARD OF 'marlinelaw11.FrameBack'. -/
def frameBackCard : Claim7 := { stood := { row := frameBackRow, standIns := [], harness := (true, "3e137a347b305fc036cb2d27fcc3414e4bdf3159c4d172db402ea8799733366c"), looks := false }, kinds := [], alts := [], laidByText := true, laidKinds := [.called, .data], laidTests := true, laidLooks := .later }
def FrameBackCardSaid : Prop := Claim7.holds Tryd.pinned (.plain (OpenSpec.ofChange frameBackSpec)) frameBackCard

/-- THE TIED CARD OF 'marlinelaw11.FrameSpoils'. -/
def frameSpoilsCard : Claim7 := { stood := { row := frameSpoilsRow, standIns := [], harness := (true, "3e137a347b305fc036cb2d27fcc3414e4bdf3159c4d172db402ea8799733366c"), looks := false }, kinds := [], alts := [], laidByText := true, laidKinds := [.called, .data], laidTests := true, laidLooks := .later }
def FrameSpoilsCardSaid : Prop := Claim7.holds Tryd.pinned (.plain (OpenSpec.ofChange frameSpoilsSpec)) frameSpoilsCard

/-- THE TIED CARD OF 'marlinelaw11.FrameParts'. -/
def framePartsCard : Claim7 := { stood := { row := framePartsRow, standIns := [], harness := (true, "3e137a347b305fc036cb2d27fcc3414e4bdf3159c4d172db402ea8799733366c"), looks := false }, kinds := [], alts := [], laidByText := true, laidKinds := [.called, .data], laidTests := true, laidLooks := .later }
def FramePartsCardSaid : Prop := Claim7.holds Tryd.pinned (.plain (OpenSpec.ofChange framePartsSpec)) framePartsCard

/-- THE SECOND FORM's CARD OF 'marlinelaw11.FrameTells'. -/
def frameTellsUptoCard : Claim7 := { stood := { row := frameTellsUptoRow, standIns := [], harness := (true, "3e137a347b305fc036cb2d27fcc3414e4bdf3159c4d172db402ea8799733366c"), looks := false }, kinds := [], alts := [], laidByText := true, laidKinds := [.called, .data], laidTests := true, laidLooks := .later }
def FrameTellsUptoCardSaid : Prop := Claim7.holds Tryd.pinned (.plain (OpenSpec.upto frameTellsSpec)) frameTellsUptoCard

/-- THE SECOND FORM's CARD OF 'marlinelaw11.FrameBack'. -/
def frameBackUptoCard : Claim7 := { stood := { row := frameBackUptoRow, standIns := [], harness := (true, "3e137a347b305fc036cb2d27fcc3414e4bdf3159c4d172db402ea8799733366c"), looks := false }, kinds := [], alts := [], laidByText := true, laidKinds := [.called, .data], laidTests := true, laidLooks := .later }
def FrameBackUptoCardSaid : Prop := Claim7.holds Tryd.pinned (.plain (OpenSpec.upto frameBackSpec)) frameBackUptoCard

/-- THE SECOND FORM's CARD OF 'marlinelaw11.FrameSpoils'. -/
def frameSpoilsUptoCard : Claim7 := { stood := { row := frameSpoilsUptoRow, standIns := [], harness := (true, "3e137a347b305fc036cb2d27fcc3414e4bdf3159c4d172db402ea8799733366c"), looks := false }, kinds := [], alts := [], laidByText := true, laidKinds := [.called, .data], laidTests := true, laidLooks := .later }
def FrameSpoilsUptoCardSaid : Prop := Claim7.holds Tryd.pinned (.plain (OpenSpec.upto frameSpoilsSpec)) frameSpoilsUptoCard

/-- THE SECOND FORM's CARD OF 'marlinelaw11.FrameParts'. -/
def framePartsUptoCard : Claim7 := { stood := { row := framePartsUptoRow, standIns := [], harness := (true, "3e137a347b305fc036cb2d27fcc3414e4bdf3159c4d172db402ea8799733366c"), looks := false }, kinds := [], alts := [], laidByText := true, laidKinds := [.called, .data], laidTests := true, laidLooks := .later }
def FramePartsUptoCardSaid : Prop := Claim7.holds Tryd.pinned (.plain (OpenSpec.upto framePartsSpec)) framePartsUptoCard
end Rows
end Go.Proofs.YtkakkligndejaaaDoor
