/-
  DERIVED. GIVEN WITH THE SEED: THE CARDS: each row of YtmcchconnfoffabDoorRows.lean that lists a variable, with what it lists TIED to the program's text (the seventh form; the later family's looks); each row that meets fmt, with fmt's text TOLD by the authors' own Lean function (tested against real Go, not proved from fmt's source: count such statements apart). THE CARD IS WHAT COUNTS. Prove the row's statement (the work); the ties are given (YtmcchconnfoffabDoorTie.lean); close each card by the builder's one call (the guide's Derived/Test/ToyasCard.lean, 'card_holds'). Laid BY PROGRAM, IN A SANDBOX (cutbox-door.mjs). By AI agents, Wed Nov 11 2026. No macro, syntax, notation, axiom, sorry.
-/
import Derived.Test.YtmcchconnfoffabDoorRows
import GoSem.ClaimSeven
namespace Go.Proofs.YtmcchconnfoffabDoor
namespace Rows

/-- THE TIED CARD OF 'braidlaw06.CmDuel'. -/
def cmDuelCard : Claim7 := { stood := { row := cmDuelRow, standIns := [], harness := (true, "2d80f6252907a69324de556f1850bf634675461b569c660d2374f1432d9017db"), looks := false }, kinds := [], alts := [], laidByText := true, laidKinds := [.data], laidTests := true, laidLooks := .later }
def CmDuelCardSaid : Prop := Claim7.holds Tryd.pinned (.plain (OpenSpec.ofChange cmDuelSpec)) cmDuelCard

/-- THE SECOND FORM's CARD OF 'braidlaw06.CmDuel'. -/
def cmDuelUptoCard : Claim7 := { stood := { row := cmDuelUptoRow, standIns := [], harness := (true, "2d80f6252907a69324de556f1850bf634675461b569c660d2374f1432d9017db"), looks := false }, kinds := [], alts := [], laidByText := true, laidKinds := [.data], laidTests := true, laidLooks := .later }
def CmDuelUptoCardSaid : Prop := Claim7.holds Tryd.pinned (.plain (OpenSpec.upto cmDuelSpec)) cmDuelUptoCard
end Rows
end Go.Proofs.YtmcchconnfoffabDoor
