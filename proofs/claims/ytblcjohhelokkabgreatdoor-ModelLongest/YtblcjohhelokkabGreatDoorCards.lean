/-
  DERIVED. GIVEN WITH THE SEED: THE CARDS: each row of YtblcjohhelokkabGreatDoorRows.lean that lists a variable, with what it lists TIED to the program's text (the seventh form; the later family's looks); each row that meets fmt, with fmt's text TOLD by the authors' own Lean function (tested against real Go, not proved from fmt's source: count such statements apart). THE CARD IS WHAT COUNTS. Prove the row's statement (the work); the ties are given (YtblcjohhelokkabGreatDoorTie.lean); close each card by the builder's one call (the guide's Derived/Test/ToyasCard.lean, 'card_holds'). Laid BY PROGRAM, IN A SANDBOX (cutbox-door.mjs). By AI agents, Wed Nov 11 2026. No macro, syntax, notation, axiom, sorry.
-/
import Derived.Test.YtblcjohhelokkabGreatDoorRows
import GoSem.ClaimSeven
namespace Go.Proofs.YtblcjohhelokkabGreatDoor
namespace Rows

/-- THE TIED CARD OF 'braidlaw11.ModelLongest'. -/
def modelLongestCard : Claim7 := { stood := { row := modelLongestRow, standIns := [], harness := (true, "1bac75b5eb9ef272a386ca73b2053d83de574e742605e08dd15dc93e9e57499d"), looks := true }, kinds := [], alts := [], laidByText := true, laidKinds := [.data, .data, .data, .data, .sentinel, .sentinel, .data, .data, .data, .pinned], laidTests := true, laidLooks := .later }
def ModelLongestCardSaid : Prop := Claim7.holds Tryz.pinned (.plain (OpenSpec.ofChange modelLongestSpec)) modelLongestCard

/-- THE SECOND FORM's CARD OF 'braidlaw11.ModelLongest'. -/
def modelLongestUptoCard : Claim7 := { stood := { row := modelLongestUptoRow, standIns := [], harness := (true, "1bac75b5eb9ef272a386ca73b2053d83de574e742605e08dd15dc93e9e57499d"), looks := true }, kinds := [], alts := [], laidByText := true, laidKinds := [.data, .data, .data, .data, .sentinel, .sentinel, .data, .data, .data, .pinned], laidTests := true, laidLooks := .later }
def ModelLongestUptoCardSaid : Prop := Claim7.holds Tryz.pinned (.plain (OpenSpec.upto modelLongestSpec)) modelLongestUptoCard
end Rows
end Go.Proofs.YtblcjohhelokkabGreatDoor
