/-
  DERIVED. GIVEN WITH THE SEED: THE CARDS: each row of YtmcchconnfoffaaDoorRows.lean that lists a variable, with what it lists TIED to the program's text (the seventh form; the later family's looks); each row that meets fmt, with fmt's text TOLD by the authors' own Lean function (tested against real Go, not proved from fmt's source: count such statements apart). THE CARD IS WHAT COUNTS. Prove the row's statement (the work); the ties are given (YtmcchconnfoffaaDoorTie.lean); close each card by the builder's one call (the guide's Derived/Test/ToyasCard.lean, 'card_holds'). Laid BY PROGRAM, IN A SANDBOX (cutbox-door.mjs). By AI agents, Wed Nov 11 2026. No macro, syntax, notation, axiom, sorry.
-/
import Derived.Test.YtmcchconnfoffaaDoorRows
import GoSem.ClaimSeven
namespace Go.Proofs.YtmcchconnfoffaaDoor
namespace Rows

/-- THE TIED CARD OF 'braidlaw06.CmNames'. -/
def cmNamesCard : Claim7 := { stood := { row := cmNamesRow, standIns := [], harness := (true, "dff4cbf380c4b0edc99330500c25002f6b3c3e5d14848c5efd4dc07df55aa9b7"), looks := false }, kinds := [], alts := [], laidByText := true, laidKinds := [.data], laidTests := true, laidLooks := .later }
def CmNamesCardSaid : Prop := Claim7.holds Tryd.pinned (.plain (OpenSpec.ofChange cmNamesSpec)) cmNamesCard

/-- THE TIED CARD OF 'braidlaw06.CmNone'. -/
def cmNoneCard : Claim7 := { stood := { row := cmNoneRow, standIns := [], harness := (true, "dff4cbf380c4b0edc99330500c25002f6b3c3e5d14848c5efd4dc07df55aa9b7"), looks := false }, kinds := [], alts := [], laidByText := true, laidKinds := [.data], laidTests := true, laidLooks := .later }
def CmNoneCardSaid : Prop := Claim7.holds Tryd.pinned (.plain (OpenSpec.ofChange cmNoneSpec)) cmNoneCard

/-- THE SECOND FORM's CARD OF 'braidlaw06.CmNames'. -/
def cmNamesUptoCard : Claim7 := { stood := { row := cmNamesUptoRow, standIns := [], harness := (true, "dff4cbf380c4b0edc99330500c25002f6b3c3e5d14848c5efd4dc07df55aa9b7"), looks := false }, kinds := [], alts := [], laidByText := true, laidKinds := [.data], laidTests := true, laidLooks := .later }
def CmNamesUptoCardSaid : Prop := Claim7.holds Tryd.pinned (.plain (OpenSpec.upto cmNamesSpec)) cmNamesUptoCard

/-- THE SECOND FORM's CARD OF 'braidlaw06.CmNone'. -/
def cmNoneUptoCard : Claim7 := { stood := { row := cmNoneUptoRow, standIns := [], harness := (true, "dff4cbf380c4b0edc99330500c25002f6b3c3e5d14848c5efd4dc07df55aa9b7"), looks := false }, kinds := [], alts := [], laidByText := true, laidKinds := [.data], laidTests := true, laidLooks := .later }
def CmNoneUptoCardSaid : Prop := Claim7.holds Tryd.pinned (.plain (OpenSpec.upto cmNoneSpec)) cmNoneUptoCard
end Rows
end Go.Proofs.YtmcchconnfoffaaDoor
