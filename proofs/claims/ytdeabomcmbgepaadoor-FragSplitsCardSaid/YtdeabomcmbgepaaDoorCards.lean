/-
  DERIVED. GIVEN WITH THE SEED: THE CARDS: each row of YtdeabomcmbgepaaDoorRows.lean that lists a variable, with what it lists TIED to the program's text (the seventh form; the later family's looks); each row that meets fmt, with fmt's text TOLD by the authors' own Lean function (tested against real Go, not proved from fmt's source: count such statements apart). THE CARD IS WHAT COUNTS. Prove the row's statement (the work); the ties are given (YtdeabomcmbgepaaDoorTie.lean); close each card by the builder's one call (the guide's Derived/Test/ToyasCard.lean, 'card_holds'). Laid BY PROGRAM, IN A SANDBOX (cutbox-door.mjs). By AI agents, Wed Nov 11 2026. No macro, syntax, notation, axiom, sorry.
-/
import Derived.Test.YtdeabomcmbgepaaDoorRows
import GoSem.ClaimSeven
namespace Go.Proofs.YtdeabomcmbgepaaDoor
namespace Rows

/-- THE TIED CARD OF 'marlinelaw23.FragTells'. -/
def fragTellsCard : Claim7 := { stood := { row := fragTellsRow, standIns := [], harness := (true, "34d39afcb65540ac27956fb40cea4c988c6b6309f76fc6d32f6a70c4ece97f9c"), looks := false }, kinds := [], alts := [], laidByText := true, laidKinds := [.data], laidTests := true, laidLooks := .later }
def FragTellsCardSaid : Prop := Claim7.holds Tryd.pinned (.plain (OpenSpec.ofChange fragTellsSpec)) fragTellsCard

/-- THE TIED CARD OF 'marlinelaw23.FragBack'. -/
def fragBackCard : Claim7 := { stood := { row := fragBackRow, standIns := [], harness := (true, "34d39afcb65540ac27956fb40cea4c988c6b6309f76fc6d32f6a70c4ece97f9c"), looks := false }, kinds := [], alts := [], laidByText := true, laidKinds := [.data], laidTests := true, laidLooks := .later }
def FragBackCardSaid : Prop := Claim7.holds Tryd.pinned (.plain (OpenSpec.ofChange fragBackSpec)) fragBackCard

/-- THE TIED CARD OF 'marlinelaw23.FragSplits'. -/
def fragSplitsCard : Claim7 := { stood := { row := fragSplitsRow, standIns := [], harness := (true, "34d39afcb65540ac27956fb40cea4c988c6b6309f76fc6d32f6a70c4ece97f9c"), looks := false }, kinds := [], alts := [], laidByText := true, laidKinds := [.data], laidTests := true, laidLooks := .later }
def FragSplitsCardSaid : Prop := Claim7.holds Tryd.pinned (.plain (OpenSpec.ofChange fragSplitsSpec)) fragSplitsCard

/-- THE TIED CARD OF 'marlinelaw23.FragThere'. -/
def fragThereCard : Claim7 := { stood := { row := fragThereRow, standIns := [], harness := (true, "34d39afcb65540ac27956fb40cea4c988c6b6309f76fc6d32f6a70c4ece97f9c"), looks := false }, kinds := [], alts := [], laidByText := true, laidKinds := [.data], laidTests := true, laidLooks := .later }
def FragThereCardSaid : Prop := Claim7.holds Tryd.pinned (.plain (OpenSpec.ofChange fragThereSpec)) fragThereCard

/-- THE TIED CARD OF 'marlinelaw23.FragLoss'. -/
def fragLossCard : Claim7 := { stood := { row := fragLossRow, standIns := [], harness := (true, "34d39afcb65540ac27956fb40cea4c988c6b6309f76fc6d32f6a70c4ece97f9c"), looks := false }, kinds := [], alts := [], laidByText := true, laidKinds := [.data], laidTests := true, laidLooks := .later }
def FragLossCardSaid : Prop := Claim7.holds Tryd.pinned (.plain (OpenSpec.ofChange fragLossSpec)) fragLossCard

/-- THE SECOND FORM's CARD OF 'marlinelaw23.FragTells'. -/
def fragTellsUptoCard : Claim7 := { stood := { row := fragTellsUptoRow, standIns := [], harness := (true, "34d39afcb65540ac27956fb40cea4c988c6b6309f76fc6d32f6a70c4ece97f9c"), looks := false }, kinds := [], alts := [], laidByText := true, laidKinds := [.data], laidTests := true, laidLooks := .later }
def FragTellsUptoCardSaid : Prop := Claim7.holds Tryd.pinned (.plain (OpenSpec.upto fragTellsSpec)) fragTellsUptoCard

/-- THE SECOND FORM's CARD OF 'marlinelaw23.FragBack'. -/
def fragBackUptoCard : Claim7 := { stood := { row := fragBackUptoRow, standIns := [], harness := (true, "34d39afcb65540ac27956fb40cea4c988c6b6309f76fc6d32f6a70c4ece97f9c"), looks := false }, kinds := [], alts := [], laidByText := true, laidKinds := [.data], laidTests := true, laidLooks := .later }
def FragBackUptoCardSaid : Prop := Claim7.holds Tryd.pinned (.plain (OpenSpec.upto fragBackSpec)) fragBackUptoCard

/-- THE SECOND FORM's CARD OF 'marlinelaw23.FragSplits'. -/
def fragSplitsUptoCard : Claim7 := { stood := { row := fragSplitsUptoRow, standIns := [], harness := (true, "34d39afcb65540ac27956fb40cea4c988c6b6309f76fc6d32f6a70c4ece97f9c"), looks := false }, kinds := [], alts := [], laidByText := true, laidKinds := [.data], laidTests := true, laidLooks := .later }
def FragSplitsUptoCardSaid : Prop := Claim7.holds Tryd.pinned (.plain (OpenSpec.upto fragSplitsSpec)) fragSplitsUptoCard

/-- THE SECOND FORM's CARD OF 'marlinelaw23.FragThere'. -/
def fragThereUptoCard : Claim7 := { stood := { row := fragThereUptoRow, standIns := [], harness := (true, "34d39afcb65540ac27956fb40cea4c988c6b6309f76fc6d32f6a70c4ece97f9c"), looks := false }, kinds := [], alts := [], laidByText := true, laidKinds := [.data], laidTests := true, laidLooks := .later }
def FragThereUptoCardSaid : Prop := Claim7.holds Tryd.pinned (.plain (OpenSpec.upto fragThereSpec)) fragThereUptoCard

/-- THE SECOND FORM's CARD OF 'marlinelaw23.FragLoss'. -/
def fragLossUptoCard : Claim7 := { stood := { row := fragLossUptoRow, standIns := [], harness := (true, "34d39afcb65540ac27956fb40cea4c988c6b6309f76fc6d32f6a70c4ece97f9c"), looks := false }, kinds := [], alts := [], laidByText := true, laidKinds := [.data], laidTests := true, laidLooks := .later }
def FragLossUptoCardSaid : Prop := Claim7.holds Tryd.pinned (.plain (OpenSpec.upto fragLossSpec)) fragLossUptoCard
end Rows
end Go.Proofs.YtdeabomcmbgepaaDoor
