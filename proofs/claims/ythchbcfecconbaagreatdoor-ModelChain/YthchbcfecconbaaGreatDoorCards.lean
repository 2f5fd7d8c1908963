/-
  DERIVED. GIVEN WITH THE SEED: THE CARDS: each row of YthchbcfecconbaaGreatDoorRows.lean that lists a variable, with what it lists TIED to the program's text (the seventh form; the later family's looks); each row that meets fmt, with fmt's text TOLD by the authors' own Lean function (tested against real Go, not proved from fmt's source: count such statements apart). THE CARD IS WHAT COUNTS. Prove the row's statement (the work); the ties are given (YthchbcfecconbaaGreatDoorTie.lean); close each card by the builder's one call (the guide's Derived/Test/ToyasCard.lean, 'card_holds'). Laid BY PROGRAM, IN A SANDBOX (cutbox-door.mjs). By AI agents, Wed Nov 11 2026. No macro, syntax, notation, axiom, sorry.
-/
import Derived.Test.YthchbcfecconbaaGreatDoorRows
import GoSem.ClaimSeven
namespace Go.Proofs.YthchbcfecconbaaGreatDoor
namespace Rows

/-- THE TIED CARD OF 'braidlaw11.ModelRuns'. -/
def modelRunsCard : Claim7 := { stood := { row := modelRunsRow, standIns := [], harness := (true, "459d5600acd3c8643f7cf42c62ffc97dbf23ff1c413d4698cc685601fd3bc939"), looks := true }, kinds := [], alts := [], laidByText := true, laidKinds := [.data, .data, .data, .data, .sentinel, .sentinel, .data, .data, .data, .pinned], laidTests := true, laidLooks := .later }
def ModelRunsCardSaid : Prop := Claim7.holds Tryz.pinned (.plain (OpenSpec.ofChange modelRunsSpec)) modelRunsCard

/-- THE TIED CARD OF 'braidlaw11.ModelSeries'. -/
def modelSeriesCard : Claim7 := { stood := { row := modelSeriesRow, standIns := [], harness := (true, "459d5600acd3c8643f7cf42c62ffc97dbf23ff1c413d4698cc685601fd3bc939"), looks := true }, kinds := [], alts := [], laidByText := true, laidKinds := [.data, .data, .data, .data, .sentinel, .sentinel, .data, .data, .data, .pinned], laidTests := true, laidLooks := .later }
def ModelSeriesCardSaid : Prop := Claim7.holds Tryz.pinned (.plain (OpenSpec.ofChange modelSeriesSpec)) modelSeriesCard

/-- THE TIED CARD OF 'braidlaw11.ModelChain'. -/
def modelChainCard : Claim7 := { stood := { row := modelChainRow, standIns := [], harness := (true, "459d5600acd3c8643f7cf42c62ffc97dbf23ff1c413d4698cc685601fd3bc939"), looks := true }, kinds := [], alts := [], laidByText := true, laidKinds := [.data, .data, .data, .data, .sentinel, .sentinel, .data, .data, .data, .pinned], laidTests := true, laidLooks := .later }
def ModelChainCardSaid : Prop := Claim7.holds Tryz.pinned (.plain (OpenSpec.ofChange modelChainSpec)) modelChainCard

/-- THE SECOND FORM's CARD OF 'braidlaw11.ModelRuns'. -/
def modelRunsUptoCard : Claim7 := { stood := { row := modelRunsUptoRow, standIns := [], harness := (true, "459d5600acd3c8643f7cf42c62ffc97dbf23ff1c413d4698cc685601fd3bc939"), looks := true }, kinds := [], alts := [], laidByText := true, laidKinds := [.data, .data, .data, .data, .sentinel, .sentinel, .data, .data, .data, .pinned], laidTests := true, laidLooks := .later }
def ModelRunsUptoCardSaid : Prop := Claim7.holds Tryz.pinned (.plain (OpenSpec.upto modelRunsSpec)) modelRunsUptoCard

/-- THE SECOND FORM's CARD OF 'braidlaw11.ModelSeries'. -/
def modelSeriesUptoCard : Claim7 := { stood := { row := modelSeriesUptoRow, standIns := [], harness := (true, "459d5600acd3c8643f7cf42c62ffc97dbf23ff1c413d4698cc685601fd3bc939"), looks := true }, kinds := [], alts := [], laidByText := true, laidKinds := [.data, .data, .data, .data, .sentinel, .sentinel, .data, .data, .data, .pinned], laidTests := true, laidLooks := .later }
def ModelSeriesUptoCardSaid : Prop := Claim7.holds Tryz.pinned (.plain (OpenSpec.upto modelSeriesSpec)) modelSeriesUptoCard

/-- THE SECOND FORM's CARD OF 'braidlaw11.ModelChain'. -/
def modelChainUptoCard : Claim7 := { stood := { row := modelChainUptoRow, standIns := [], harness := (true, "459d5600acd3c8643f7cf42c62ffc97dbf23ff1c413d4698cc685601fd3bc939"), looks := true }, kinds := [], alts := [], laidByText := true, laidKinds := [.data, .data, .data, .data, .sentinel, .sentinel, .data, .data, .data, .pinned], laidTests := true, laidLooks := .later }
def ModelChainUptoCardSaid : Prop := Claim7.holds Tryz.pinned (.plain (OpenSpec.upto modelChainSpec)) modelChainUptoCard
end Rows
end Go.Proofs.YthchbcfecconbaaGreatDoor
