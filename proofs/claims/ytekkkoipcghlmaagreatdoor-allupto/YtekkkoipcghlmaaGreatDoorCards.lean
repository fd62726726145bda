/-
  DERIVED. GIVEN WITH THE SEED: THE CARDS: each row of YtekkkoipcghlmaaGreatDoorRows.lean that lists a variable, with what it lists TIED to the program's text (the seventh form; the later family's looks); each row that meets fmt, with fmt's text TOLD by the authors' own Lean function (tested against real Go, not proved from fmt's source: count such statements apart). THE CARD IS WHAT COUNTS. Prove the row's statement (the work); the ties are given (YtekkkoipcghlmaaGreatDoorTie.lean); close each card by the builder's one call (the guide's Derived/Test/ToyasCard.lean, 'card_holds'). Laid BY PROGRAM, IN A SANDBOX (cutbox-door.mjs). By AI agents, Wed Nov 11 2026. No macro, syntax, notation, axiom, sorry.
-/
import Derived.Test.YtekkkoipcghlmaaGreatDoorRows
import GoSem.ClaimSeven
namespace Go.Proofs.YtekkkoipcghlmaaGreatDoor
namespace Rows

/-- THE TIED CARD OF 'knotslaw.Keeps'. -/
def keepsCard : Claim7 := { stood := { row := keepsRow, standIns := [], harness := (true, "ad8dbc8c066b13a7ad522f8ac03b68d209fe02c9b2f40a61ca63c1d944139032"), looks := true }, kinds := [], alts := [], laidByText := true, laidKinds := [.data, .data, .data, .data, .sentinel, .sentinel, .pinned], laidTests := true, laidLooks := .later }
def KeepsCardSaid : Prop := Claim7.holds Tryz.pinned (.plain (OpenSpec.ofChange keepsSpec)) keepsCard

/-- THE TIED CARD OF 'knotslaw.Solves'. -/
def solvesCard : Claim7 := { stood := { row := solvesRow, standIns := [], harness := (true, "ad8dbc8c066b13a7ad522f8ac03b68d209fe02c9b2f40a61ca63c1d944139032"), looks := true }, kinds := [], alts := [], laidByText := true, laidKinds := [.data, .data, .data, .data, .sentinel, .sentinel, .pinned], laidTests := true, laidLooks := .later }
def SolvesCardSaid : Prop := Claim7.holds Tryz.pinned (.plain (OpenSpec.ofChange solvesSpec)) solvesCard

/-- THE TIED CARD OF 'knotskeep.Tried'. -/
def triedCard : Claim7 := { stood := { row := triedRow, standIns := [], harness := (true, "ad8dbc8c066b13a7ad522f8ac03b68d209fe02c9b2f40a61ca63c1d944139032"), looks := true }, kinds := [], alts := [], laidByText := true, laidKinds := [.data, .data, .data], laidTests := true, laidLooks := .later }
def TriedCardSaid : Prop := Claim7.holds Tryz.pinned (.plain (OpenSpec.ofChange triedSpec)) triedCard

/-- THE TIED CARD OF 'knotskeep.Full'. -/
def fullCard : Claim7 := { stood := { row := fullRow, standIns := [], harness := (true, "ad8dbc8c066b13a7ad522f8ac03b68d209fe02c9b2f40a61ca63c1d944139032"), looks := true }, kinds := [], alts := [], laidByText := true, laidKinds := [.data, .data, .data], laidTests := true, laidLooks := .later }
def FullCardSaid : Prop := Claim7.holds Tryz.pinned (.plain (OpenSpec.ofChange fullSpec)) fullCard

/-- THE TIED CARD OF 'knotslaw.All'. -/
def allCard : Claim7 := { stood := { row := allRow, standIns := [], harness := (true, "ad8dbc8c066b13a7ad522f8ac03b68d209fe02c9b2f40a61ca63c1d944139032"), looks := true }, kinds := [], alts := [], laidByText := true, laidKinds := [.data, .data, .data, .data, .sentinel, .sentinel, .pinned], laidTests := true, laidLooks := .later }
def AllCardSaid : Prop := Claim7.holds Tryz.pinned (.plain (OpenSpec.ofChange allSpec)) allCard

/-- THE TIED CARD OF 'knotskeep.Sound'. -/
def soundCard : Claim7 := { stood := { row := soundRow, standIns := [], harness := (true, "ad8dbc8c066b13a7ad522f8ac03b68d209fe02c9b2f40a61ca63c1d944139032"), looks := true }, kinds := [], alts := [], laidByText := true, laidKinds := [.data, .data, .data, .data, .sentinel, .sentinel, .pinned], laidTests := true, laidLooks := .later }
def SoundCardSaid : Prop := Claim7.holds Tryz.pinned (.plain (OpenSpec.ofChange soundSpec)) soundCard

/-- THE TIED CARD OF 'knotskeep.Blamed'. -/
def blamedCard : Claim7 := { stood := { row := blamedRow, standIns := [], harness := (true, "ad8dbc8c066b13a7ad522f8ac03b68d209fe02c9b2f40a61ca63c1d944139032"), looks := true }, kinds := [], alts := [], laidByText := true, laidKinds := [.data, .data, .data, .data, .sentinel, .sentinel, .pinned], laidTests := true, laidLooks := .later }
def BlamedCardSaid : Prop := Claim7.holds Tryz.pinned (.plain (OpenSpec.ofChange blamedSpec)) blamedCard

/-- THE TIED CARD OF 'knotskeep.Holes'. -/
def holesCard : Claim7 := { stood := { row := holesRow, standIns := [], harness := (true, "ad8dbc8c066b13a7ad522f8ac03b68d209fe02c9b2f40a61ca63c1d944139032"), looks := true }, kinds := [], alts := [], laidByText := true, laidKinds := [.data, .data, .data, .data, .sentinel, .sentinel, .pinned], laidTests := true, laidLooks := .later }
def HolesCardSaid : Prop := Claim7.holds Tryz.pinned (.plain (OpenSpec.ofChange holesSpec)) holesCard

/-- THE TIED CARD OF 'knotskeep.Rings'. -/
def ringsCard : Claim7 := { stood := { row := ringsRow, standIns := [], harness := (true, "ad8dbc8c066b13a7ad522f8ac03b68d209fe02c9b2f40a61ca63c1d944139032"), looks := true }, kinds := [], alts := [], laidByText := true, laidKinds := [.data, .data, .data, .data, .sentinel, .sentinel, .pinned], laidTests := true, laidLooks := .later }
def RingsCardSaid : Prop := Claim7.holds Tryz.pinned (.plain (OpenSpec.ofChange ringsSpec)) ringsCard

/-- THE TIED CARD OF 'knotskeep.Counted'. -/
def countedCard : Claim7 := { stood := { row := countedRow, standIns := [], harness := (true, "ad8dbc8c066b13a7ad522f8ac03b68d209fe02c9b2f40a61ca63c1d944139032"), looks := true }, kinds := [], alts := [], laidByText := true, laidKinds := [.data, .data, .data, .data, .sentinel, .sentinel, .pinned], laidTests := true, laidLooks := .later }
def CountedCardSaid : Prop := Claim7.holds Tryz.pinned (.plain (OpenSpec.ofChange countedSpec)) countedCard

/-- THE SECOND FORM's CARD OF 'knotslaw.Keeps'. -/
def keepsUptoCard : Claim7 := { stood := { row := keepsUptoRow, standIns := [], harness := (true, "ad8dbc8c066b13a7ad522f8ac03b68d209fe02c9b2f40a61ca63c1d944139032"), looks := true }, kinds := [], alts := [], laidByText := true, laidKinds := [.data, .data, .data, .data, .sentinel, .sentinel, .pinned], laidTests := true, laidLooks := .later }
def KeepsUptoCardSaid : Prop := Claim7.holds Tryz.pinned (.plain (OpenSpec.upto keepsSpec)) keepsUptoCard

/-- THE SECOND FORM's CARD OF 'knotslaw.Solves'. -/
def solvesUptoCard : Claim7 := { stood := { row := solvesUptoRow, standIns := [], harness := (true, "ad8dbc8c066b13a7ad522f8ac03b68d209fe02c9b2f40a61ca63c1d944139032"), looks := true }, kinds := [], alts := [], laidByText := true, laidKinds := [.data, .data, .data, .data, .sentinel, .sentinel, .pinned], laidTests := true, laidLooks := .later }
def SolvesUptoCardSaid : Prop := Claim7.holds Tryz.pinned (.plain (OpenSpec.upto solvesSpec)) solvesUptoCard

/-- THE SECOND FORM's CARD OF 'knotskeep.Tried'. -/
def triedUptoCard : Claim7 := { stood := { row := triedUptoRow, standIns := [], harness := (true, "ad8dbc8c066b13a7ad522f8ac03b68d209fe02c9b2f40a61ca63c1d944139032"), looks := true }, kinds := [], alts := [], laidByText := true, laidKinds := [.data, .data, .data], laidTests := true, laidLooks := .later }
def TriedUptoCardSaid : Prop := Claim7.holds Tryz.pinned (.plain (OpenSpec.upto triedSpec)) triedUptoCard

/-- THE SECOND FORM's CARD OF 'knotskeep.Full'. -/
def fullUptoCard : Claim7 := { stood := { row := fullUptoRow, standIns := [], harness := (true, "ad8dbc8c066b13a7ad522f8ac03b68d209fe02c9b2f40a61ca63c1d944139032"), looks := true }, kinds := [], alts := [], laidByText := true, laidKinds := [.data, .data, .data], laidTests := true, laidLooks := .later }
def FullUptoCardSaid : Prop := Claim7.holds Tryz.pinned (.plain (OpenSpec.upto fullSpec)) fullUptoCard

/-- THE SECOND FORM's CARD OF 'knotslaw.All'. -/
def allUptoCard : Claim7 := { stood := { row := allUptoRow, standIns := [], harness := (true, "ad8dbc8c066b13a7ad522f8ac03b68d209fe02c9b2f40a61ca63c1d944139032"), looks := true }, kinds := [], alts := [], laidByText := true, laidKinds := [.data, .data, .data, .data, .sentinel, .sentinel, .pinned], laidTests := true, laidLooks := .later }
def AllUptoCardSaid : Prop := Claim7.holds Tryz.pinned (.plain (OpenSpec.upto allSpec)) allUptoCard

/-- THE SECOND FORM's CARD OF 'knotskeep.Sound'. -/
def soundUptoCard : Claim7 := { stood := { row := soundUptoRow, standIns := [], harness := (true, "ad8dbc8c066b13a7ad522f8ac03b68d209fe02c9b2f40a61ca63c1d944139032"), looks := true }, kinds := [], alts := [], laidByText := true, laidKinds := [.data, .data, .data, .data, .sentinel, .sentinel, .pinned], laidTests := true, laidLooks := .later }
def SoundUptoCardSaid : Prop := Claim7.holds Tryz.pinned (.plain (OpenSpec.upto soundSpec)) soundUptoCard

/-- THE SECOND FORM's CARD OF 'knotskeep.Blamed'. -/
def blamedUptoCard : Claim7 := { stood := { row := blamedUptoRow, standIns := [], harness := (true, "ad8dbc8c066b13a7ad522f8ac03b68d209fe02c9b2f40a61ca63c1d944139032"), looks := true }, kinds := [], alts := [], laidByText := true, laidKinds := [.data, .data, .data, .data, .sentinel, .sentinel, .pinned], laidTests := true, laidLooks := .later }
def BlamedUptoCardSaid : Prop := Claim7.holds Tryz.pinned (.plain (OpenSpec.upto blamedSpec)) blamedUptoCard

/-- THE SECOND FORM's CARD OF 'knotskeep.Holes'. -/
def holesUptoCard : Claim7 := { stood := { row := holesUptoRow, standIns := [], harness := (true, "ad8dbc8c066b13a7ad522f8ac03b68d209fe02c9b2f40a61ca63c1d944139032"), looks := true }, kinds := [], alts := [], laidByText := true, laidKinds := [.data, .data, .data, .data, .sentinel, .sentinel, .pinned], laidTests := true, laidLooks := .later }
def HolesUptoCardSaid : Prop := Claim7.holds Tryz.pinned (.plain (OpenSpec.upto holesSpec)) holesUptoCard

/-- THE SECOND FORM's CARD OF 'knotskeep.Rings'. -/
def ringsUptoCard : Claim7 := { stood := { row := ringsUptoRow, standIns := [], harness := (true, "ad8dbc8c066b13a7ad522f8ac03b68d209fe02c9b2f40a61ca63c1d944139032"), looks := true }, kinds := [], alts := [], laidByText := true, laidKinds := [.data, .data, .data, .data, .sentinel, .sentinel, .pinned], laidTests := true, laidLooks := .later }
def RingsUptoCardSaid : Prop := Claim7.holds Tryz.pinned (.plain (OpenSpec.upto ringsSpec)) ringsUptoCard

/-- THE SECOND FORM's CARD OF 'knotskeep.Counted'. -/
def countedUptoCard : Claim7 := { stood := { row := countedUptoRow, standIns := [], harness := (true, "ad8dbc8c066b13a7ad522f8ac03b68d209fe02c9b2f40a61ca63c1d944139032"), looks := true }, kinds := [], alts := [], laidByText := true, laidKinds := [.data, .data, .data, .data, .sentinel, .sentinel, .pinned], laidTests := true, laidLooks := .later }
def CountedUptoCardSaid : Prop := Claim7.holds Tryz.pinned (.plain (OpenSpec.upto countedSpec)) countedUptoCard
end Rows
end Go.Proofs.YtekkkoipcghlmaaGreatDoor
