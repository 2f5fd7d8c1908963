/-
  DERIVED. GIVEN WITH THE SEED: THE CARDS: each row of YtclednbclgkdaaaDoorRows.lean that lists a variable, with what it lists TIED to the program's text (the seventh form; the later family's looks); each row that meets fmt, with fmt's text TOLD by the authors' own Lean function (tested against real Go, not proved from fmt's source: count such statements apart). THE CARD IS WHAT COUNTS. Prove the row's statement (the work); the ties are given (YtclednbclgkdaaaDoorTie.lean); close each card by the builder's one call (the guide's Derived/Test/ToyasCard.lean, 'card_holds'). Laid BY PROGRAM, IN A SANDBOX (cutbox-door.mjs). By AI agents, Wed Nov 11 2026. No macro, syntax, notation, axiom, sorry.
-/
import Derived.Test.YtclednbclgkdaaaDoorRows
import GoSem.ClaimSeven
namespace Go.Proofs.YtclednbclgkdaaaDoor
namespace Rows

/-- THE TIED CARD OF 'braidlaw10.LangCut'. -/
def langCutCard : Claim7 := { stood := { row := langCutRow, standIns := [], harness := (true, "f49d7b50801591a15f538a5beb982dd070944e2b4d7bcff37aa6d364715a126c"), looks := true }, kinds := [], alts := [], laidByText := true, laidKinds := [.data, .data, .data, .data, .sentinel, .sentinel, .data, .data, .data, .pinned], laidTests := true, laidLooks := .later }
def LangCutCardSaid : Prop := Claim7.holds Tryd.pinned (.plain (OpenSpec.ofChange langCutSpec)) langCutCard

/-- THE TIED CARD OF 'braidlaw10.LangFresh'. -/
def langFreshCard : Claim7 := { stood := { row := langFreshRow, standIns := [], harness := (true, "f49d7b50801591a15f538a5beb982dd070944e2b4d7bcff37aa6d364715a126c"), looks := true }, kinds := [], alts := [], laidByText := true, laidKinds := [.data, .data, .data, .data, .sentinel, .sentinel, .data, .data, .data, .pinned], laidTests := true, laidLooks := .later }
def LangFreshCardSaid : Prop := Claim7.holds Tryd.pinned (.plain (OpenSpec.ofChange langFreshSpec)) langFreshCard

/-- THE TIED CARD OF 'braidlaw10.LangDress'. -/
def langDressCard : Claim7 := { stood := { row := langDressRow, standIns := [], harness := (true, "f49d7b50801591a15f538a5beb982dd070944e2b4d7bcff37aa6d364715a126c"), looks := true }, kinds := [], alts := [], laidByText := true, laidKinds := [.data, .data, .data, .data, .sentinel, .sentinel, .data, .data, .data, .pinned], laidTests := true, laidLooks := .later }
def LangDressCardSaid : Prop := Claim7.holds Tryd.pinned (.plain (OpenSpec.ofChange langDressSpec)) langDressCard

/-- THE TIED CARD OF 'braidlaw10.LangShift'. -/
def langShiftCard : Claim7 := { stood := { row := langShiftRow, standIns := [], harness := (true, "f49d7b50801591a15f538a5beb982dd070944e2b4d7bcff37aa6d364715a126c"), looks := true }, kinds := [], alts := [], laidByText := true, laidKinds := [.data, .data, .data, .data, .sentinel, .sentinel, .data, .data, .data, .pinned], laidTests := true, laidLooks := .later }
def LangShiftCardSaid : Prop := Claim7.holds Tryd.pinned (.plain (OpenSpec.ofChange langShiftSpec)) langShiftCard

/-- THE SECOND FORM's CARD OF 'braidlaw10.LangCut'. -/
def langCutUptoCard : Claim7 := { stood := { row := langCutUptoRow, standIns := [], harness := (true, "f49d7b50801591a15f538a5beb982dd070944e2b4d7bcff37aa6d364715a126c"), looks := true }, kinds := [], alts := [], laidByText := true, laidKinds := [.data, .data, .data, .data, .sentinel, .sentinel, .data, .data, .data, .pinned], laidTests := true, laidLooks := .later }
def LangCutUptoCardSaid : Prop := Claim7.holds Tryd.pinned (.plain (OpenSpec.upto langCutSpec)) langCutUptoCard

/-- THE SECOND FORM's CARD OF 'braidlaw10.LangFresh'. -/
def langFreshUptoCard : Claim7 := { stood := { row := langFreshUptoRow, standIns := [], harness := (true, "f49d7b50801591a15f538a5beb982dd070944e2b4d7bcff37aa6d364715a126c"), looks := true }, kinds := [], alts := [], laidByText := true, laidKinds := [.data, .data, .data, .data, .sentinel, .sentinel, .data, .data, .data, .pinned], laidTests := true, laidLooks := .later }
def LangFreshUptoCardSaid : Prop := Claim7.holds Tryd.pinned (.plain (OpenSpec.upto langFreshSpec)) langFreshUptoCard

/-- THE SECOND FORM's CARD OF 'braidlaw10.LangDress'. -/
def langDressUptoCard : Claim7 := { stood := { row := langDressUptoRow, standIns := [], harness := (true, "f49d7b50801591a15f538a5beb982dd070944e2b4d7bcff37aa6d364715a126c"), looks := true }, kinds := [], alts := [], laidByText := true, laidKinds := [.data, .data, .data, .data, .sentinel, .sentinel, .data, .data, .data, .pinned], laidTests := true, laidLooks := .later }
def LangDressUptoCardSaid : Prop := Claim7.holds Tryd.pinned (.plain (OpenSpec.upto langDressSpec)) langDressUptoCard

/-- THE SECOND FORM's CARD OF 'braidlaw10.LangShift'. -/
def langShiftUptoCard : Claim7 := { stood := { row := langShiftUptoRow, standIns := [], harness := (true, "f49d7b50801591a15f538a5beb982dd070944e2b4d7bcff37aa6d364715a126c"), looks := true }, kinds := [], alts := [], laidByText := true, laidKinds := [.data, .data, .data, .data, .sentinel, .sentinel, .data, .data, .data, .pinned], laidTests := true, laidLooks := .later }
def LangShiftUptoCardSaid : Prop := Claim7.holds Tryd.pinned (.plain (OpenSpec.upto langShiftSpec)) langShiftUptoCard
end Rows
end Go.Proofs.YtclednbclgkdaaaDoor
