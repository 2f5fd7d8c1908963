/-
  DERIVED. GIVEN WITH THE SEED: THE CARDS: each row of YtefnjcdcdfmgpaaGreatDoorRows.lean that lists a variable, with what it lists TIED to the program's text (the seventh form; the later family's looks); each row that meets fmt, with fmt's text TOLD by the authors' own Lean function (tested against real Go, not proved from fmt's source: count such statements apart). THE CARD IS WHAT COUNTS. Prove the row's statement (the work); the ties are given (YtefnjcdcdfmgpaaGreatDoorTie.lean); close each card by the builder's one call (the guide's Derived/Test/ToyasCard.lean, 'card_holds'). Laid BY PROGRAM, IN A SANDBOX (cutbox-door.mjs). By AI agents, Wed Nov 11 2026. No macro, syntax, notation, axiom, sorry.
-/
import Derived.Test.YtefnjcdcdfmgpaaGreatDoorRows
import GoSem.ClaimSeven
namespace Go.Proofs.YtefnjcdcdfmgpaaGreatDoor
namespace Rows

/-- THE TIED CARD OF 'braidlaw09.RetryNone'. -/
def retryNoneCard : Claim7 := { stood := { row := retryNoneRow, standIns := [], harness := (true, "41583fffc481630d9efc69891645dcebb608c7d3073a3bf628047cb26c4ac1db"), looks := true }, kinds := [], alts := [], laidByText := true, laidKinds := [.data], laidTests := true, laidLooks := .later }
def RetryNoneCardSaid : Prop := Claim7.holds Tryz.pinned (.plain (OpenSpec.ofChange retryNoneSpec)) retryNoneCard

/-- THE SECOND FORM's CARD OF 'braidlaw09.RetryNone'. -/
def retryNoneUptoCard : Claim7 := { stood := { row := retryNoneUptoRow, standIns := [], harness := (true, "41583fffc481630d9efc69891645dcebb608c7d3073a3bf628047cb26c4ac1db"), looks := true }, kinds := [], alts := [], laidByText := true, laidKinds := [.data], laidTests := true, laidLooks := .later }
def RetryNoneUptoCardSaid : Prop := Claim7.holds Tryz.pinned (.plain (OpenSpec.upto retryNoneSpec)) retryNoneUptoCard
end Rows
end Go.Proofs.YtefnjcdcdfmgpaaGreatDoor
