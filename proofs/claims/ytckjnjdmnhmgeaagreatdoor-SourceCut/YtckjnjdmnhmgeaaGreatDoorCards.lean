/-
  DERIVED. GIVEN WITH THE SEED: THE CARDS: each row of YtckjnjdmnhmgeaaGreatDoorRows.lean that lists a variable, with what it lists TIED to the program's text (the seventh form; the later family's looks); each row that meets fmt, with fmt's text TOLD by the authors' own Lean function (tested against real Go, not proved from fmt's source: count such statements apart). THE CARD IS WHAT COUNTS. Prove the row's statement (the work); the ties are given (YtckjnjdmnhmgeaaGreatDoorTie.lean); close each card by the builder's one call (the guide's Derived/Test/ToyasCard.lean, 'card_holds'). Laid BY PROGRAM, IN A SANDBOX (cutbox-door.mjs). By AI agents, Wed Nov 11 2026. No macro, syntax, notation, axiom, sorry.
-/
import Derived.Test.YtckjnjdmnhmgeaaGreatDoorRows
import GoSem.ClaimSeven
namespace Go.Proofs.YtckjnjdmnhmgeaaGreatDoor
namespace Rows

/-- THE TIED CARD OF 'braidlaw23.SourceNames'. -/
def sourceNamesCard : Claim7 := { stood := { row := sourceNamesRow, standIns := [], harness := (true, "df5751c0ee4c6f7245a32b872441c3d0301f4ace2dc4ad4b44a481c37ac8f736"), looks := true }, kinds := [], alts := [], laidByText := true, laidKinds := [.data, .data, .data, .data, .sentinel, .sentinel, .data, .data, .data, .data, .pinned], laidTests := true, laidLooks := .later }
def SourceNamesCardSaid : Prop := Claim7.holds Tryz.pinned (.plain (OpenSpec.ofChange sourceNamesSpec)) sourceNamesCard

/-- THE TIED CARD OF 'braidlaw23.SourceDress'. -/
def sourceDressCard : Claim7 := { stood := { row := sourceDressRow, standIns := [], harness := (true, "df5751c0ee4c6f7245a32b872441c3d0301f4ace2dc4ad4b44a481c37ac8f736"), looks := true }, kinds := [], alts := [], laidByText := true, laidKinds := [.data, .data, .data, .data, .sentinel, .sentinel, .data, .data, .data, .data, .pinned], laidTests := true, laidLooks := .later }
def SourceDressCardSaid : Prop := Claim7.holds Tryz.pinned (.plain (OpenSpec.ofChange sourceDressSpec)) sourceDressCard

/-- THE TIED CARD OF 'braidlaw23.SourceCut'. -/
def sourceCutCard : Claim7 := { stood := { row := sourceCutRow, standIns := [], harness := (true, "df5751c0ee4c6f7245a32b872441c3d0301f4ace2dc4ad4b44a481c37ac8f736"), looks := true }, kinds := [], alts := [], laidByText := true, laidKinds := [.data, .data, .data, .data, .sentinel, .sentinel, .data, .data, .data, .data, .pinned], laidTests := true, laidLooks := .later }
def SourceCutCardSaid : Prop := Claim7.holds Tryz.pinned (.plain (OpenSpec.ofChange sourceCutSpec)) sourceCutCard

/-- THE SECOND FORM's CARD OF 'braidlaw23.SourceNames'. -/
def sourceNamesUptoCard : Claim7 := { stood := { row := sourceNamesUptoRow, standIns := [], harness := (true, "df5751c0ee4c6f7245a32b872441c3d0301f4ace2dc4ad4b44a481c37ac8f736"), looks := true }, kinds := [], alts := [], laidByText := true, laidKinds := [.data, .data, .data, .data, .sentinel, .sentinel, .data, .data, .data, .data, .pinned], laidTests := true, laidLooks := .later }
def SourceNamesUptoCardSaid : Prop := Claim7.holds Tryz.pinned (.plain (OpenSpec.upto sourceNamesSpec)) sourceNamesUptoCard

/-- THE SECOND FORM's CARD OF 'braidlaw23.SourceDress'. -/
def sourceDressUptoCard : Claim7 := { stood := { row := sourceDressUptoRow, standIns := [], harness := (true, "df5751c0ee4c6f7245a32b872441c3d0301f4ace2dc4ad4b44a481c37ac8f736"), looks := true }, kinds := [], alts := [], laidByText := true, laidKinds := [.data, .data, .data, .data, .sentinel, .sentinel, .data, .data, .data, .data, .pinned], laidTests := true, laidLooks := .later }
def SourceDressUptoCardSaid : Prop := Claim7.holds Tryz.pinned (.plain (OpenSpec.upto sourceDressSpec)) sourceDressUptoCard

/-- THE SECOND FORM's CARD OF 'braidlaw23.SourceCut'. -/
def sourceCutUptoCard : Claim7 := { stood := { row := sourceCutUptoRow, standIns := [], harness := (true, "df5751c0ee4c6f7245a32b872441c3d0301f4ace2dc4ad4b44a481c37ac8f736"), looks := true }, kinds := [], alts := [], laidByText := true, laidKinds := [.data, .data, .data, .data, .sentinel, .sentinel, .data, .data, .data, .data, .pinned], laidTests := true, laidLooks := .later }
def SourceCutUptoCardSaid : Prop := Claim7.holds Tryz.pinned (.plain (OpenSpec.upto sourceCutSpec)) sourceCutUptoCard
end Rows
end Go.Proofs.YtckjnjdmnhmgeaaGreatDoor
