/-
  DERIVED. GIVEN WITH THE SEED: THE CARDS: each row of YtekkkoipcghlmabGreatDoorRows.lean that lists a variable, with what it lists TIED to the program's text (the seventh form; the later family's looks); each row that meets fmt, with fmt's text TOLD by the authors' own Lean function (tested against real Go, not proved from fmt's source: count such statements apart). THE CARD IS WHAT COUNTS. Prove the row's statement (the work); the ties are given (YtekkkoipcghlmabGreatDoorTie.lean); close each card by the builder's one call (the guide's Derived/Test/ToyasCard.lean, 'card_holds'). Laid BY PROGRAM, IN A SANDBOX (cutbox-door.mjs). By AI agents, Wed Nov 11 2026. No macro, syntax, notation, axiom, sorry.
-/
import Derived.Test.YtekkkoipcghlmabGreatDoorRows
import GoSem.ClaimSeven
namespace Go.Proofs.YtekkkoipcghlmabGreatDoor
namespace Rows

/-- THE TIED CARD OF 'knotskeep.Learned'. -/
def learnedCard : Claim7 := { stood := { row := learnedRow, standIns := [], harness := (true, "3c27d016f733cfb149a1a4ba339745aed2a1bc1b683afcabc409f5b111cad1db"), looks := true }, kinds := [], alts := [], laidByText := true, laidKinds := [.data, .data, .data, .data, .sentinel, .sentinel, .pinned], laidTests := true, laidLooks := .later }
def LearnedCardSaid : Prop := Claim7.holds Tryz.pinned (.plain (OpenSpec.ofChange learnedSpec)) learnedCard

/-- THE TIED CARD OF 'knotskeep.Firm'. -/
def firmCard : Claim7 := { stood := { row := firmRow, standIns := [], harness := (true, "3c27d016f733cfb149a1a4ba339745aed2a1bc1b683afcabc409f5b111cad1db"), looks := true }, kinds := [], alts := [], laidByText := true, laidKinds := [.data, .data, .data, .data, .sentinel, .sentinel, .pinned], laidTests := true, laidLooks := .later }
def FirmCardSaid : Prop := Claim7.holds Tryz.pinned (.plain (OpenSpec.ofChange firmSpec)) firmCard

/-- THE TIED CARD OF 'knotskeep.Apart'. -/
def apartCard : Claim7 := { stood := { row := apartRow, standIns := [], harness := (true, "3c27d016f733cfb149a1a4ba339745aed2a1bc1b683afcabc409f5b111cad1db"), looks := true }, kinds := [], alts := [], laidByText := true, laidKinds := [.data, .data, .data], laidTests := true, laidLooks := .later }
def ApartCardSaid : Prop := Claim7.holds Tryz.pinned (.plain (OpenSpec.ofChange apartSpec)) apartCard

/-- THE SECOND FORM's CARD OF 'knotskeep.Learned'. -/
def learnedUptoCard : Claim7 := { stood := { row := learnedUptoRow, standIns := [], harness := (true, "3c27d016f733cfb149a1a4ba339745aed2a1bc1b683afcabc409f5b111cad1db"), looks := true }, kinds := [], alts := [], laidByText := true, laidKinds := [.data, .data, .data, .data, .sentinel, .sentinel, .pinned], laidTests := true, laidLooks := .later }
def LearnedUptoCardSaid : Prop := Claim7.holds Tryz.pinned (.plain (OpenSpec.upto learnedSpec)) learnedUptoCard

/-- THE SECOND FORM's CARD OF 'knotskeep.Firm'. -/
def firmUptoCard : Claim7 := { stood := { row := firmUptoRow, standIns := [], harness := (true, "3c27d016f733cfb149a1a4ba339745aed2a1bc1b683afcabc409f5b111cad1db"), looks := true }, kinds := [], alts := [], laidByText := true, laidKinds := [.data, .data, .data, .data, .sentinel, .sentinel, .pinned], laidTests := true, laidLooks := .later }
def FirmUptoCardSaid : Prop := Claim7.holds Tryz.pinned (.plain (OpenSpec.upto firmSpec)) firmUptoCard

/-- THE SECOND FORM's CARD OF 'knotskeep.Apart'. -/
def apartUptoCard : Claim7 := { stood := { row := apartUptoRow, standIns := [], harness := (true, "3c27d016f733cfb149a1a4ba339745aed2a1bc1b683afcabc409f5b111cad1db"), looks := true }, kinds := [], alts := [], laidByText := true, laidKinds := [.data, .data, .data], laidTests := true, laidLooks := .later }
def ApartUptoCardSaid : Prop := Claim7.holds Tryz.pinned (.plain (OpenSpec.upto apartSpec)) apartUptoCard
end Rows
end Go.Proofs.YtekkkoipcghlmabGreatDoor
