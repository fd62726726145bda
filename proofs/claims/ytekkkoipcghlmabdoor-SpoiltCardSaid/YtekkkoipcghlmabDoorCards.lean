/-
  DERIVED. GIVEN WITH THE SEED: THE CARDS: each row of YtekkkoipcghlmabDoorRows.lean that lists a variable, with what it lists TIED to the program's text (the seventh form; the later family's looks); each row that meets fmt, with fmt's text TOLD by the authors' own Lean function (tested against real Go, not proved from fmt's source: count such statements apart). THE CARD IS WHAT COUNTS. Prove the row's statement (the work); the ties are given (YtekkkoipcghlmabDoorTie.lean); close each card by the builder's one call (the guide's Derived/Test/ToyasCard.lean, 'card_holds'). Laid BY PROGRAM, IN A SANDBOX (cutbox-door.mjs). By AI agents, Wed Nov 11 2026. No macro, syntax, notation, axiom, sorry.
-/
import Derived.Test.YtekkkoipcghlmabDoorRows
import GoSem.ClaimSeven
namespace Go.Proofs.YtekkkoipcghlmabDoor
namespace Rows

/-- THE TIED CARD OF 'knotskeep.Spoilt'. -/
def spoiltCard : Claim7 := { stood := { row := spoiltRow, standIns := [], harness := (true, "674c518385481c36d1d15825ad6df866c9641fca75debae7471818a1ddbf37a1"), looks := true }, kinds := [], alts := [], laidByText := true, laidKinds := [.data, .data, .data, .data, .sentinel, .sentinel, .pinned], laidTests := true, laidLooks := .later }
def SpoiltCardSaid : Prop := Claim7.holds Tryd.pinned (.plain (OpenSpec.ofChange spoiltSpec)) spoiltCard

/-- THE SECOND FORM's CARD OF 'knotskeep.Spoilt'. -/
def spoiltUptoCard : Claim7 := { stood := { row := spoiltUptoRow, standIns := [], harness := (true, "674c518385481c36d1d15825ad6df866c9641fca75debae7471818a1ddbf37a1"), looks := true }, kinds := [], alts := [], laidByText := true, laidKinds := [.data, .data, .data, .data, .sentinel, .sentinel, .pinned], laidTests := true, laidLooks := .later }
def SpoiltUptoCardSaid : Prop := Claim7.holds Tryd.pinned (.plain (OpenSpec.upto spoiltSpec)) spoiltUptoCard
end Rows
end Go.Proofs.YtekkkoipcghlmabDoor
