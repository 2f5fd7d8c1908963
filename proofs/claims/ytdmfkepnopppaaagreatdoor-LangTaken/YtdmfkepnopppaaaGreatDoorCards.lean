/-
  DERIVED. GIVEN WITH THE SEED: THE CARDS: each row of YtdmfkepnopppaaaGreatDoorRows.lean that lists a variable, with what it lists TIED to the program's text (the seventh form; the later family's looks); each row that meets fmt, with fmt's text TOLD by the authors' own Lean function (tested against real Go, not proved from fmt's source: count such statements apart). THE CARD IS WHAT COUNTS. Prove the row's statement (the work); the ties are given (YtdmfkepnopppaaaGreatDoorTie.lean); close each card by the builder's one call (the guide's Derived/Test/ToyasCard.lean, 'card_holds'). Laid BY PROGRAM, IN A SANDBOX (cutbox-door.mjs). By AI agents, Wed Nov 11 2026. No macro, syntax, notation, axiom, sorry.
-/
import Derived.Test.YtdmfkepnopppaaaGreatDoorRows
import GoSem.ClaimSeven
namespace Go.Proofs.YtdmfkepnopppaaaGreatDoor
namespace Rows

/-- THE TIED CARD OF 'braidlaw10.LangTaken'. -/
def langTakenCard : Claim7 := { stood := { row := langTakenRow, standIns := [], harness := (true, "e3efd69820ba23e436de3970faae4323f5347ec1cde36ebb97924778526bd1e4"), looks := true }, kinds := [], alts := [], laidByText := true, laidKinds := [.data, .data, .data, .data, .sentinel, .sentinel, .data, .data, .data, .pinned], laidTests := true, laidLooks := .later }
def LangTakenCardSaid : Prop := Claim7.holds Tryz.pinned (.plain (OpenSpec.ofChange langTakenSpec)) langTakenCard

/-- THE TIED CARD OF 'braidlaw10.LangRound'. -/
def langRoundCard : Claim7 := { stood := { row := langRoundRow, standIns := [], harness := (true, "e3efd69820ba23e436de3970faae4323f5347ec1cde36ebb97924778526bd1e4"), looks := true }, kinds := [], alts := [], laidByText := true, laidKinds := [.data, .data, .data, .data, .sentinel, .sentinel, .data, .data, .data, .pinned], laidTests := true, laidLooks := .later }
def LangRoundCardSaid : Prop := Claim7.holds Tryz.pinned (.plain (OpenSpec.ofChange langRoundSpec)) langRoundCard

/-- THE SECOND FORM's CARD OF 'braidlaw10.LangTaken'. -/
def langTakenUptoCard : Claim7 := { stood := { row := langTakenUptoRow, standIns := [], harness := (true, "e3efd69820ba23e436de3970faae4323f5347ec1cde36ebb97924778526bd1e4"), looks := true }, kinds := [], alts := [], laidByText := true, laidKinds := [.data, .data, .data, .data, .sentinel, .sentinel, .data, .data, .data, .pinned], laidTests := true, laidLooks := .later }
def LangTakenUptoCardSaid : Prop := Claim7.holds Tryz.pinned (.plain (OpenSpec.upto langTakenSpec)) langTakenUptoCard

/-- THE SECOND FORM's CARD OF 'braidlaw10.LangRound'. -/
def langRoundUptoCard : Claim7 := { stood := { row := langRoundUptoRow, standIns := [], harness := (true, "e3efd69820ba23e436de3970faae4323f5347ec1cde36ebb97924778526bd1e4"), looks := true }, kinds := [], alts := [], laidByText := true, laidKinds := [.data, .data, .data, .data, .sentinel, .sentinel, .data, .data, .data, .pinned], laidTests := true, laidLooks := .later }
def LangRoundUptoCardSaid : Prop := Claim7.holds Tryz.pinned (.plain (OpenSpec.upto langRoundSpec)) langRoundUptoCard
end Rows
end Go.Proofs.YtdmfkepnopppaaaGreatDoor
