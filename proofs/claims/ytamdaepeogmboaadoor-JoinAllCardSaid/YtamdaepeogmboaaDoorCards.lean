/-
  DERIVED. GIVEN WITH THE SEED: THE CARDS: each row of YtamdaepeogmboaaDoorRows.lean that lists a variable, with what it lists TIED to the program's text (the seventh form; the later family's looks); each row that meets fmt, with fmt's text TOLD by the authors' own Lean function (tested against real Go, not proved from fmt's source: count such statements apart). THE CARD IS WHAT COUNTS. Prove the row's statement (the work); the ties are given (YtamdaepeogmboaaDoorTie.lean); close each card by the builder's one call (the guide's Derived/Test/ToyasCard.lean, 'card_holds'). Laid BY PROGRAM, IN A SANDBOX (cutbox-door.mjs). By AI agents, Wed Nov 11 2026. No macro, syntax, notation, axiom, sorry.
-/
import Derived.Test.YtamdaepeogmboaaDoorRows
import GoSem.ClaimSeven
namespace Go.Proofs.YtamdaepeogmboaaDoor
namespace Rows

/-- THE TIED CARD OF 'marlinelaw24.JoinPlays'. -/
def joinPlaysCard : Claim7 := { stood := { row := joinPlaysRow, standIns := [], harness := (true, "67ba9b04b3d36423651f2aa0649d43bb6fe5891848a80c57200c2b2227b8d1f2"), looks := false }, kinds := [], alts := [], laidByText := true, laidKinds := [.data], laidTests := true, laidLooks := .later }
def JoinPlaysCardSaid : Prop := Claim7.holds Tryd.pinned (.plain (OpenSpec.ofChange joinPlaysSpec)) joinPlaysCard

/-- THE TIED CARD OF 'marlinelaw24.JoinAll'. -/
def joinAllCard : Claim7 := { stood := { row := joinAllRow, standIns := [], harness := (true, "67ba9b04b3d36423651f2aa0649d43bb6fe5891848a80c57200c2b2227b8d1f2"), looks := false }, kinds := [], alts := [], laidByText := true, laidKinds := [.data], laidTests := true, laidLooks := .later }
def JoinAllCardSaid : Prop := Claim7.holds Tryd.pinned (.plain (OpenSpec.ofChange joinAllSpec)) joinAllCard

/-- THE TIED CARD OF 'marlinelaw24.JoinSome'. -/
def joinSomeCard : Claim7 := { stood := { row := joinSomeRow, standIns := [], harness := (true, "67ba9b04b3d36423651f2aa0649d43bb6fe5891848a80c57200c2b2227b8d1f2"), looks := false }, kinds := [], alts := [], laidByText := true, laidKinds := [.data], laidTests := true, laidLooks := .later }
def JoinSomeCardSaid : Prop := Claim7.holds Tryd.pinned (.plain (OpenSpec.ofChange joinSomeSpec)) joinSomeCard

/-- THE TIED CARD OF 'marlinelaw24.JoinRoom'. -/
def joinRoomCard : Claim7 := { stood := { row := joinRoomRow, standIns := [], harness := (true, "67ba9b04b3d36423651f2aa0649d43bb6fe5891848a80c57200c2b2227b8d1f2"), looks := false }, kinds := [], alts := [], laidByText := true, laidKinds := [.data], laidTests := true, laidLooks := .later }
def JoinRoomCardSaid : Prop := Claim7.holds Tryd.pinned (.plain (OpenSpec.ofChange joinRoomSpec)) joinRoomCard

/-- THE SECOND FORM's CARD OF 'marlinelaw24.JoinPlays'. -/
def joinPlaysUptoCard : Claim7 := { stood := { row := joinPlaysUptoRow, standIns := [], harness := (true, "67ba9b04b3d36423651f2aa0649d43bb6fe5891848a80c57200c2b2227b8d1f2"), looks := false }, kinds := [], alts := [], laidByText := true, laidKinds := [.data], laidTests := true, laidLooks := .later }
def JoinPlaysUptoCardSaid : Prop := Claim7.holds Tryd.pinned (.plain (OpenSpec.upto joinPlaysSpec)) joinPlaysUptoCard

/-- THE SECOND FORM's CARD OF 'marlinelaw24.JoinAll'. -/
def joinAllUptoCard : Claim7 := { stood := { row := joinAllUptoRow, standIns := [], harness := (true, "67ba9b04b3d36423651f2aa0649d43bb6fe5891848a80c57200c2b2227b8d1f2"), looks := false }, kinds := [], alts := [], laidByText := true, laidKinds := [.data], laidTests := true, laidLooks := .later }
def JoinAllUptoCardSaid : Prop := Claim7.holds Tryd.pinned (.plain (OpenSpec.upto joinAllSpec)) joinAllUptoCard

/-- THE SECOND FORM's CARD OF 'marlinelaw24.JoinSome'. -/
def joinSomeUptoCard : Claim7 := { stood := { row := joinSomeUptoRow, standIns := [], harness := (true, "67ba9b04b3d36423651f2aa0649d43bb6fe5891848a80c57200c2b2227b8d1f2"), looks := false }, kinds := [], alts := [], laidByText := true, laidKinds := [.data], laidTests := true, laidLooks := .later }
def JoinSomeUptoCardSaid : Prop := Claim7.holds Tryd.pinned (.plain (OpenSpec.upto joinSomeSpec)) joinSomeUptoCard

/-- THE SECOND FORM's CARD OF 'marlinelaw24.JoinRoom'. -/
def joinRoomUptoCard : Claim7 := { stood := { row := joinRoomUptoRow, standIns := [], harness := (true, "67ba9b04b3d36423651f2aa0649d43bb6fe5891848a80c57200c2b2227b8d1f2"), looks := false }, kinds := [], alts := [], laidByText := true, laidKinds := [.data], laidTests := true, laidLooks := .later }
def JoinRoomUptoCardSaid : Prop := Claim7.holds Tryd.pinned (.plain (OpenSpec.upto joinRoomSpec)) joinRoomUptoCard
end Rows
end Go.Proofs.YtamdaepeogmboaaDoor
