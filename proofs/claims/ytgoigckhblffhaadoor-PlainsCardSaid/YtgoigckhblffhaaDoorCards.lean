/-
  DERIVED. GIVEN WITH THE SEED: THE CARDS: each row of YtgoigckhblffhaaDoorRows.lean that lists a variable, with what it lists TIED to the program's text (the seventh form; the later family's looks); each row that meets fmt, with fmt's text TOLD by the authors' own Lean function (tested against real Go, not proved from fmt's source: count such statements apart). THE CARD IS WHAT COUNTS. Prove the row's statement (the work); the ties are given (YtgoigckhblffhaaDoorTie.lean); close each card by the builder's one call (the guide's Derived/Test/ToyasCard.lean, 'card_holds'). Laid BY PROGRAM, IN A SANDBOX (cutbox-door.mjs). By AI agents, Wed Nov 11 2026. No macro, syntax, notation, axiom, sorry.
-/
import Derived.Test.YtgoigckhblffhaaDoorRows
import GoSem.ClaimSeven
namespace Go.Proofs.YtgoigckhblffhaaDoor
namespace Rows

/-- THE TIED CARD OF 'knotslaw.Plains'. -/
def plainsCard : Claim7 := { stood := { row := plainsRow, standIns := [], harness := (true, "3af58059345ab5f5f09e1fb24eab5b5db15a0508516d3b50542c637694295048"), looks := true }, kinds := [], alts := [], laidByText := true, laidKinds := [.data, .data, .data, .data, .sentinel, .sentinel, .pinned], laidTests := true, laidLooks := .later }
def PlainsCardSaid : Prop := Claim7.holds Tryd.pinned (.plain (OpenSpec.ofChange plainsSpec)) plainsCard

/-- THE TIED CARD OF 'knotslaw.Checks'. -/
def checksCard : Claim7 := { stood := { row := checksRow, standIns := [], harness := (true, "3af58059345ab5f5f09e1fb24eab5b5db15a0508516d3b50542c637694295048"), looks := true }, kinds := [], alts := [], laidByText := true, laidKinds := [.data, .data, .data, .data, .sentinel, .sentinel, .pinned], laidTests := true, laidLooks := .later }
def ChecksCardSaid : Prop := Claim7.holds Tryd.pinned (.plain (OpenSpec.ofChange checksSpec)) checksCard

/-- THE TIED CARD OF 'knotskeep.Tried'. -/
def triedCard : Claim7 := { stood := { row := triedRow, standIns := [], harness := (true, "3af58059345ab5f5f09e1fb24eab5b5db15a0508516d3b50542c637694295048"), looks := true }, kinds := [], alts := [], laidByText := true, laidKinds := [.data], laidTests := true, laidLooks := .later }
def TriedCardSaid : Prop := Claim7.holds Tryd.pinned (.plain (OpenSpec.ofChange triedSpec)) triedCard

/-- THE TIED CARD OF 'knotskeep.Full'. -/
def fullCard : Claim7 := { stood := { row := fullRow, standIns := [], harness := (true, "3af58059345ab5f5f09e1fb24eab5b5db15a0508516d3b50542c637694295048"), looks := true }, kinds := [], alts := [], laidByText := true, laidKinds := [.data, .data, .data], laidTests := true, laidLooks := .later }
def FullCardSaid : Prop := Claim7.holds Tryd.pinned (.plain (OpenSpec.ofChange fullSpec)) fullCard

/-- THE SECOND FORM's CARD OF 'knotslaw.Plains'. -/
def plainsUptoCard : Claim7 := { stood := { row := plainsUptoRow, standIns := [], harness := (true, "3af58059345ab5f5f09e1fb24eab5b5db15a0508516d3b50542c637694295048"), looks := true }, kinds := [], alts := [], laidByText := true, laidKinds := [.data, .data, .data, .data, .sentinel, .sentinel, .pinned], laidTests := true, laidLooks := .later }
def PlainsUptoCardSaid : Prop := Claim7.holds Tryd.pinned (.plain (OpenSpec.upto plainsSpec)) plainsUptoCard

/-- THE SECOND FORM's CARD OF 'knotslaw.Checks'. -/
def checksUptoCard : Claim7 := { stood := { row := checksUptoRow, standIns := [], harness := (true, "3af58059345ab5f5f09e1fb24eab5b5db15a0508516d3b50542c637694295048"), looks := true }, kinds := [], alts := [], laidByText := true, laidKinds := [.data, .data, .data, .data, .sentinel, .sentinel, .pinned], laidTests := true, laidLooks := .later }
def ChecksUptoCardSaid : Prop := Claim7.holds Tryd.pinned (.plain (OpenSpec.upto checksSpec)) checksUptoCard

/-- THE SECOND FORM's CARD OF 'knotskeep.Tried'. -/
def triedUptoCard : Claim7 := { stood := { row := triedUptoRow, standIns := [], harness := (true, "3af58059345ab5f5f09e1fb24eab5b5db15a0508516d3b50542c637694295048"), looks := true }, kinds := [], alts := [], laidByText := true, laidKinds := [.data], laidTests := true, laidLooks := .later }
def TriedUptoCardSaid : Prop := Claim7.holds Tryd.pinned (.plain (OpenSpec.upto triedSpec)) triedUptoCard

/-- THE SECOND FORM's CARD OF 'knotskeep.Full'. -/
def fullUptoCard : Claim7 := { stood := { row := fullUptoRow, standIns := [], harness := (true, "3af58059345ab5f5f09e1fb24eab5b5db15a0508516d3b50542c637694295048"), looks := true }, kinds := [], alts := [], laidByText := true, laidKinds := [.data, .data, .data], laidTests := true, laidLooks := .later }
def FullUptoCardSaid : Prop := Claim7.holds Tryd.pinned (.plain (OpenSpec.upto fullSpec)) fullUptoCard
end Rows
end Go.Proofs.YtgoigckhblffhaaDoor
