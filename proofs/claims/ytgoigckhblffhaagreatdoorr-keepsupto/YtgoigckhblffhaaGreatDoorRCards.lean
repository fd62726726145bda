/-
  DERIVED. GIVEN WITH THE SEED: THE CARDS: each row of YtgoigckhblffhaaGreatDoorRRows.lean that lists a variable, with what it lists TIED to the program's text (the seventh form; the later family's looks); each row that meets fmt, with fmt's text TOLD by the authors' own Lean function (tested against real Go, not proved from fmt's source: count such statements apart). THE CARD IS WHAT COUNTS. Prove the row's statement (the work); the ties are given (YtgoigckhblffhaaGreatDoorRTie.lean); close each card by the builder's one call (the guide's Derived/Test/ToyasCard.lean, 'card_holds'). Laid BY PROGRAM, IN A SANDBOX (cutbox-door.mjs). By AI agents, Wed Nov 11 2026. No macro, syntax, notation, axiom, sorry.
-/
import Derived.Test.YtgoigckhblffhaaGreatDoorRRows
import GoSem.ClaimSeven
namespace Go.Proofs.YtgoigckhblffhaaGreatDoorR
namespace Rows

/-- THE TIED CARD OF 'knotslaw.Keeps'. -/
def keepsCard : Claim7 := { stood := { row := keepsRow, standIns := [], harness := (true, "5de7668d970cd95ddd2a7535dad160bcb68fbfe4a72b3b27c333f69b8e1e5742"), looks := true }, kinds := [], alts := [], laidByText := true, laidKinds := [.data, .data, .data, .data, .sentinel, .sentinel, .pinned], laidTests := true, laidLooks := .later }
def KeepsCardSaid : Prop := Claim7.holds Tryz.pinned (.plain (OpenSpec.ofChange keepsSpec)) keepsCard

/-- THE SECOND FORM's CARD OF 'knotslaw.Keeps'. -/
def keepsUptoCard : Claim7 := { stood := { row := keepsUptoRow, standIns := [], harness := (true, "5de7668d970cd95ddd2a7535dad160bcb68fbfe4a72b3b27c333f69b8e1e5742"), looks := true }, kinds := [], alts := [], laidByText := true, laidKinds := [.data, .data, .data, .data, .sentinel, .sentinel, .pinned], laidTests := true, laidLooks := .later }
def KeepsUptoCardSaid : Prop := Claim7.holds Tryz.pinned (.plain (OpenSpec.upto keepsSpec)) keepsUptoCard
end Rows
end Go.Proofs.YtgoigckhblffhaaGreatDoorR
