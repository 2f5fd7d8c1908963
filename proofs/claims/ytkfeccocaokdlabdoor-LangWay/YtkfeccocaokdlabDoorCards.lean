/-
  DERIVED. GIVEN WITH THE SEED: THE CARDS: each row of YtkfeccocaokdlabDoorRows.lean that lists a variable, with what it lists TIED to the program's text (the seventh form; the later family's looks); each row that meets fmt, with fmt's text TOLD by the authors' own Lean function (tested against real Go, not proved from fmt's source: count such statements apart). THE CARD IS WHAT COUNTS. Prove the row's statement (the work); the ties are given (YtkfeccocaokdlabDoorTie.lean); close each card by the builder's one call (the guide's Derived/Test/ToyasCard.lean, 'card_holds'). Laid BY PROGRAM, IN A SANDBOX (cutbox-door.mjs). By AI agents, Wed Nov 11 2026. No macro, syntax, notation, axiom, sorry.
-/
import Derived.Test.YtkfeccocaokdlabDoorRows
import GoSem.ClaimSeven
namespace Go.Proofs.YtkfeccocaokdlabDoor
namespace Rows

/-- THE TIED CARD OF 'braidlaw10.LangShift'. -/
def langShiftCard : Claim7 := { stood := { row := langShiftRow, standIns := [], harness := (true, "92ba539fceeb710fbcf51cbcf6a0be64c1390bfae7eb0c281443026126a4d507"), looks := true }, kinds := [], alts := [], laidByText := true, laidKinds := [.data, .data, .data, .data, .sentinel, .sentinel, .data, .data, .data, .pinned], laidTests := true, laidLooks := .later }
def LangShiftCardSaid : Prop := Claim7.holds Tryd.pinned (.plain (OpenSpec.ofChange langShiftSpec)) langShiftCard

/-- THE TIED CARD OF 'braidlaw10.LangWay'. -/
def langWayCard : Claim7 := { stood := { row := langWayRow, standIns := [], harness := (true, "92ba539fceeb710fbcf51cbcf6a0be64c1390bfae7eb0c281443026126a4d507"), looks := true }, kinds := [], alts := [], laidByText := true, laidKinds := [.data, .data, .data, .data, .sentinel, .sentinel, .data, .data, .data, .pinned], laidTests := true, laidLooks := .later }
def LangWayCardSaid : Prop := Claim7.holds Tryd.pinned (.plain (OpenSpec.ofChange langWaySpec)) langWayCard

/-- THE SECOND FORM's CARD OF 'braidlaw10.LangShift'. -/
def langShiftUptoCard : Claim7 := { stood := { row := langShiftUptoRow, standIns := [], harness := (true, "92ba539fceeb710fbcf51cbcf6a0be64c1390bfae7eb0c281443026126a4d507"), looks := true }, kinds := [], alts := [], laidByText := true, laidKinds := [.data, .data, .data, .data, .sentinel, .sentinel, .data, .data, .data, .pinned], laidTests := true, laidLooks := .later }
def LangShiftUptoCardSaid : Prop := Claim7.holds Tryd.pinned (.plain (OpenSpec.upto langShiftSpec)) langShiftUptoCard

/-- THE SECOND FORM's CARD OF 'braidlaw10.LangWay'. -/
def langWayUptoCard : Claim7 := { stood := { row := langWayUptoRow, standIns := [], harness := (true, "92ba539fceeb710fbcf51cbcf6a0be64c1390bfae7eb0c281443026126a4d507"), looks := true }, kinds := [], alts := [], laidByText := true, laidKinds := [.data, .data, .data, .data, .sentinel, .sentinel, .data, .data, .data, .pinned], laidTests := true, laidLooks := .later }
def LangWayUptoCardSaid : Prop := Claim7.holds Tryd.pinned (.plain (OpenSpec.upto langWaySpec)) langWayUptoCard
end Rows
end Go.Proofs.YtkfeccocaokdlabDoor
