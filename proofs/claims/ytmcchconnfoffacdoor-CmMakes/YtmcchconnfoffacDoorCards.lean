/-
  DERIVED. GIVEN WITH THE SEED: THE CARDS: each row of YtmcchconnfoffacDoorRows.lean that lists a variable, with what it lists TIED to the program's text (the seventh form; the later family's looks); each row that meets fmt, with fmt's text TOLD by the authors' own Lean function (tested against real Go, not proved from fmt's source: count such statements apart). THE CARD IS WHAT COUNTS. Prove the row's statement (the work); the ties are given (YtmcchconnfoffacDoorTie.lean); close each card by the builder's one call (the guide's Derived/Test/ToyasCard.lean, 'card_holds'). Laid BY PROGRAM, IN A SANDBOX (cutbox-door.mjs). By AI agents, Wed Nov 11 2026. No macro, syntax, notation, axiom, sorry.
-/
import Derived.Test.YtmcchconnfoffacDoorRows
import GoSem.ClaimSeven
namespace Go.Proofs.YtmcchconnfoffacDoor
namespace Rows

/-- THE TIED CARD OF 'braidlaw06.CmMakes'. -/
def cmMakesCard : Claim7 := { stood := { row := cmMakesRow, standIns := [], harness := (true, "07d2af6a8cb4312a99fc8bd4cde7fa044ba84d5dfe6d5794c99ea5e545882c80"), looks := false }, kinds := [], alts := [], laidByText := true, laidKinds := [.data], laidTests := true, laidLooks := .later }
def CmMakesCardSaid : Prop := Claim7.holds Tryd.pinned (.plain (OpenSpec.ofChange cmMakesSpec)) cmMakesCard

/-- THE SECOND FORM's CARD OF 'braidlaw06.CmMakes'. -/
def cmMakesUptoCard : Claim7 := { stood := { row := cmMakesUptoRow, standIns := [], harness := (true, "07d2af6a8cb4312a99fc8bd4cde7fa044ba84d5dfe6d5794c99ea5e545882c80"), looks := false }, kinds := [], alts := [], laidByText := true, laidKinds := [.data], laidTests := true, laidLooks := .later }
def CmMakesUptoCardSaid : Prop := Claim7.holds Tryd.pinned (.plain (OpenSpec.upto cmMakesSpec)) cmMakesUptoCard
end Rows
end Go.Proofs.YtmcchconnfoffacDoor
