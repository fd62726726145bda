/-
  DERIVED. GIVEN WITH THE SEED: THE CARDS: each row of YtekkkoipcghlmaaDoorRows.lean that lists a variable, with what it lists TIED to the program's text (the seventh form; the later family's looks); each row that meets fmt, with fmt's text TOLD by the authors' own Lean function (tested against real Go, not proved from fmt's source: count such statements apart). THE CARD IS WHAT COUNTS. Prove the row's statement (the work); the ties are given (YtekkkoipcghlmaaDoorTie.lean); close each card by the builder's one call (the guide's Derived/Test/ToyasCard.lean, 'card_holds'). Laid BY PROGRAM, IN A SANDBOX (cutbox-door.mjs). By AI agents, Wed Nov 11 2026. No macro, syntax, notation, axiom, sorry.
-/
import Derived.Test.YtekkkoipcghlmaaDoorRows
import GoSem.ClaimSeven
namespace Go.Proofs.YtekkkoipcghlmaaDoor
namespace Rows

/-- THE TIED CARD OF 'knotslaw.Plains'. -/
def plainsCard : Claim7 := { stood := { row := plainsRow, standIns := [], harness := (true, "4accd50811a546a2f72218b33122ab3a86ef09b9215f33490c2c4e9a4ecf95d0"), looks := true }, kinds := [], alts := [], laidByText := true, laidKinds := [.data, .data, .data, .data, .sentinel, .sentinel, .pinned], laidTests := true, laidLooks := .later }
def PlainsCardSaid : Prop := Claim7.holds Tryd.pinned (.plain (OpenSpec.ofChange plainsSpec)) plainsCard

/-- THE TIED CARD OF 'knotslaw.Checks'. -/
def checksCard : Claim7 := { stood := { row := checksRow, standIns := [], harness := (true, "4accd50811a546a2f72218b33122ab3a86ef09b9215f33490c2c4e9a4ecf95d0"), looks := true }, kinds := [], alts := [], laidByText := true, laidKinds := [.data, .data, .data, .data, .sentinel, .sentinel, .pinned], laidTests := true, laidLooks := .later }
def ChecksCardSaid : Prop := Claim7.holds Tryd.pinned (.plain (OpenSpec.ofChange checksSpec)) checksCard

/-- THE SECOND FORM's CARD OF 'knotslaw.Plains'. -/
def plainsUptoCard : Claim7 := { stood := { row := plainsUptoRow, standIns := [], harness := (true, "4accd50811a546a2f72218b33122ab3a86ef09b9215f33490c2c4e9a4ecf95d0"), looks := true }, kinds := [], alts := [], laidByText := true, laidKinds := [.data, .data, .data, .data, .sentinel, .sentinel, .pinned], laidTests := true, laidLooks := .later }
def PlainsUptoCardSaid : Prop := Claim7.holds Tryd.pinned (.plain (OpenSpec.upto plainsSpec)) plainsUptoCard

/-- THE SECOND FORM's CARD OF 'knotslaw.Checks'. -/
def checksUptoCard : Claim7 := { stood := { row := checksUptoRow, standIns := [], harness := (true, "4accd50811a546a2f72218b33122ab3a86ef09b9215f33490c2c4e9a4ecf95d0"), looks := true }, kinds := [], alts := [], laidByText := true, laidKinds := [.data, .data, .data, .data, .sentinel, .sentinel, .pinned], laidTests := true, laidLooks := .later }
def ChecksUptoCardSaid : Prop := Claim7.holds Tryd.pinned (.plain (OpenSpec.upto checksSpec)) checksUptoCard
end Rows
end Go.Proofs.YtekkkoipcghlmaaDoor
