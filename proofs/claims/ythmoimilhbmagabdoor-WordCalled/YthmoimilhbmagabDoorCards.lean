/-
  DERIVED. GIVEN WITH THE SEED: THE CARDS: each row of YthmoimilhbmagabDoorRows.lean that lists a variable, with what it lists TIED to the program's text (the seventh form; the later family's looks); each row that meets fmt, with fmt's text TOLD by the authors' own Lean function (tested against real Go, not proved from fmt's source: count such statements apart). THE CARD IS WHAT COUNTS. Prove the row's statement (the work); the ties are given (YthmoimilhbmagabDoorTie.lean); close each card by the builder's one call (the guide's Derived/Test/ToyasCard.lean, 'card_holds'). Laid BY PROGRAM, IN A SANDBOX (cutbox-door.mjs). By AI agents, Wed Nov 11 2026. No macro, syntax, notation, axiom, sorry.
-/
import Derived.Test.YthmoimilhbmagabDoorRows
import GoSem.ClaimSeven
namespace Go.Proofs.YthmoimilhbmagabDoor
namespace Rows

/-- THE TIED CARD OF 'braidlaw01.WordCalled'. -/
def wordCalledCard : Claim7 := { stood := { row := wordCalledRow, standIns := [], harness := (true, "6088b11698bda95def6b736b6b7a8a3950d296983f97c2f1cae2f881e0ac93d4"), looks := false }, kinds := [], alts := [], laidByText := true, laidKinds := [.data, .data], laidTests := true, laidLooks := .later }
def WordCalledCardSaid : Prop := Claim7.holds Tryd.pinned (.plain (OpenSpec.ofChange wordCalledSpec)) wordCalledCard

/-- THE SECOND FORM's CARD OF 'braidlaw01.WordCalled'. -/
def wordCalledUptoCard : Claim7 := { stood := { row := wordCalledUptoRow, standIns := [], harness := (true, "6088b11698bda95def6b736b6b7a8a3950d296983f97c2f1cae2f881e0ac93d4"), looks := false }, kinds := [], alts := [], laidByText := true, laidKinds := [.data, .data], laidTests := true, laidLooks := .later }
def WordCalledUptoCardSaid : Prop := Claim7.holds Tryd.pinned (.plain (OpenSpec.upto wordCalledSpec)) wordCalledUptoCard
end Rows
end Go.Proofs.YthmoimilhbmagabDoor
