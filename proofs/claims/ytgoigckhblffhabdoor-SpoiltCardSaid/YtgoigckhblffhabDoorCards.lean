/-
  DERIVED. GIVEN WITH THE SEED: THE CARDS: each row of YtgoigckhblffhabDoorRows.lean that lists a variable, with what it lists TIED to the program's text (the seventh form; the later family's looks); each row that meets fmt, with fmt's text TOLD by the authors' own Lean function (tested against real Go, not proved from fmt's source: count such statements apart). THE CARD IS WHAT COUNTS. Prove the row's statement (the work); the ties are given (YtgoigckhblffhabDoorTie.lean); close each card by the builder's one call (the guide's Derived/Test/ToyasCard.lean, 'card_holds'). Laid BY PROGRAM, IN A SANDBOX (cutbox-door.mjs). By AI agents, Wed Nov 11 2026. No macro, syntax, notation, axiom, sorry.
-/
import Derived.Test.YtgoigckhblffhabDoorRows
import GoSem.ClaimSeven
namespace Go.Proofs.YtgoigckhblffhabDoor
namespace Rows

/-- THE TIED CARD OF 'knotskeep.Spoilt'. -/
def spoiltCard : Claim7 := { stood := { row := spoiltRow, standIns := [], harness := (true, "81c7029c56c267378bc5a9d5e3131d8f5cc046ddc602efb409453244042d1f7d"), looks := true }, kinds := [], alts := [], laidByText := true, laidKinds := [.data, .data, .data, .data, .sentinel, .sentinel, .pinned], laidTests := true, laidLooks := .later }
def SpoiltCardSaid : Prop := Claim7.holds Tryd.pinned (.plain (OpenSpec.ofChange spoiltSpec)) spoiltCard

/-- THE TIED CARD OF 'knotskeep.Apart'. -/
def apartCard : Claim7 := { stood := { row := apartRow, standIns := [], harness := (true, "81c7029c56c267378bc5a9d5e3131d8f5cc046ddc602efb409453244042d1f7d"), looks := true }, kinds := [], alts := [], laidByText := true, laidKinds := [.data, .data, .data], laidTests := true, laidLooks := .later }
def ApartCardSaid : Prop := Claim7.holds Tryd.pinned (.plain (OpenSpec.ofChange apartSpec)) apartCard

/-- THE SECOND FORM's CARD OF 'knotskeep.Spoilt'. -/
def spoiltUptoCard : Claim7 := { stood := { row := spoiltUptoRow, standIns := [], harness := (true, "81c7029c56c267378bc5a9d5e3131d8f5cc046ddc602efb409453244042d1f7d"), looks := true }, kinds := [], alts := [], laidByText := true, laidKinds := [.data, .data, .data, .data, .sentinel, .sentinel, .pinned], laidTests := true, laidLooks := .later }
def SpoiltUptoCardSaid : Prop := Claim7.holds Tryd.pinned (.plain (OpenSpec.upto spoiltSpec)) spoiltUptoCard

/-- THE SECOND FORM's CARD OF 'knotskeep.Apart'. -/
def apartUptoCard : Claim7 := { stood := { row := apartUptoRow, standIns := [], harness := (true, "81c7029c56c267378bc5a9d5e3131d8f5cc046ddc602efb409453244042d1f7d"), looks := true }, kinds := [], alts := [], laidByText := true, laidKinds := [.data, .data, .data], laidTests := true, laidLooks := .later }
def ApartUptoCardSaid : Prop := Claim7.holds Tryd.pinned (.plain (OpenSpec.upto apartSpec)) apartUptoCard
end Rows
end Go.Proofs.YtgoigckhblffhabDoor
