/-
  DERIVED. GIVEN WITH THE SEED: THE CARDS: each row of YtdpnknleobobkaaGreatDoorRows.lean that lists a variable, with what it lists TIED to the program's text (the seventh form; the later family's looks); each row that meets fmt, with fmt's text TOLD by the authors' own Lean function (tested against real Go, not proved from fmt's source: count such statements apart). THE CARD IS WHAT COUNTS. Prove the row's statement (the work); the ties are given (YtdpnknleobobkaaGreatDoorTie.lean); close each card by the builder's one call (the guide's Derived/Test/ToyasCard.lean, 'card_holds'). Laid BY PROGRAM, IN A SANDBOX (cutbox-door.mjs). By AI agents, Wed Nov 11 2026. No macro, syntax, notation, axiom, sorry.
-/
import Derived.Test.YtdpnknleobobkaaGreatDoorRows
import GoSem.ClaimSeven
namespace Go.Proofs.YtdpnknleobobkaaGreatDoor
namespace Rows

/-- THE TIED CARD OF 'braidlaw23.SourceTaken'. -/
def sourceTakenCard : Claim7 := { stood := { row := sourceTakenRow, standIns := [], harness := (true, "af21b36cdcab50f7066a9855acd2bd2df1be01a8e632e4faaa70dcd7df77a527"), looks := true }, kinds := [], alts := [], laidByText := true, laidKinds := [.data, .data, .data, .data, .sentinel, .sentinel, .data, .data, .data, .data, .pinned], laidTests := true, laidLooks := .later }
def SourceTakenCardSaid : Prop := Claim7.holds Tryz.pinned (.plain (OpenSpec.ofChange sourceTakenSpec)) sourceTakenCard

/-- THE TIED CARD OF 'braidlaw23.SourceRound'. -/
def sourceRoundCard : Claim7 := { stood := { row := sourceRoundRow, standIns := [], harness := (true, "af21b36cdcab50f7066a9855acd2bd2df1be01a8e632e4faaa70dcd7df77a527"), looks := true }, kinds := [], alts := [], laidByText := true, laidKinds := [.data, .data, .data, .data, .sentinel, .sentinel, .data, .data, .data, .data, .pinned], laidTests := true, laidLooks := .later }
def SourceRoundCardSaid : Prop := Claim7.holds Tryz.pinned (.plain (OpenSpec.ofChange sourceRoundSpec)) sourceRoundCard

/-- THE SECOND FORM's CARD OF 'braidlaw23.SourceTaken'. -/
def sourceTakenUptoCard : Claim7 := { stood := { row := sourceTakenUptoRow, standIns := [], harness := (true, "af21b36cdcab50f7066a9855acd2bd2df1be01a8e632e4faaa70dcd7df77a527"), looks := true }, kinds := [], alts := [], laidByText := true, laidKinds := [.data, .data, .data, .data, .sentinel, .sentinel, .data, .data, .data, .data, .pinned], laidTests := true, laidLooks := .later }
def SourceTakenUptoCardSaid : Prop := Claim7.holds Tryz.pinned (.plain (OpenSpec.upto sourceTakenSpec)) sourceTakenUptoCard

/-- THE SECOND FORM's CARD OF 'braidlaw23.SourceRound'. -/
def sourceRoundUptoCard : Claim7 := { stood := { row := sourceRoundUptoRow, standIns := [], harness := (true, "af21b36cdcab50f7066a9855acd2bd2df1be01a8e632e4faaa70dcd7df77a527"), looks := true }, kinds := [], alts := [], laidByText := true, laidKinds := [.data, .data, .data, .data, .sentinel, .sentinel, .data, .data, .data, .data, .pinned], laidTests := true, laidLooks := .later }
def SourceRoundUptoCardSaid : Prop := Claim7.holds Tryz.pinned (.plain (OpenSpec.upto sourceRoundSpec)) sourceRoundUptoCard
end Rows
end Go.Proofs.YtdpnknleobobkaaGreatDoor
