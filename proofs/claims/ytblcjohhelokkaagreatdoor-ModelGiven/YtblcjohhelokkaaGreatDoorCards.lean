/-
  DERIVED. GIVEN WITH THE SEED: THE CARDS: each row of YtblcjohhelokkaaGreatDoorRows.lean that lists a variable, with what it lists TIED to the program's text (the seventh form; the later family's looks); each row that meets fmt, with fmt's text TOLD by the authors' own Lean function (tested against real Go, not proved from fmt's source: count such statements apart). THE CARD IS WHAT COUNTS. Prove the row's statement (the work); the ties are given (YtblcjohhelokkaaGreatDoorTie.lean); close each card by the builder's one call (the guide's Derived/Test/ToyasCard.lean, 'card_holds'). Laid BY PROGRAM, IN A SANDBOX (cutbox-door.mjs). By AI agents, Wed Nov 11 2026. No macro, syntax, notation, axiom, sorry.
-/
import Derived.Test.YtblcjohhelokkaaGreatDoorRows
import GoSem.ClaimSeven
namespace Go.Proofs.YtblcjohhelokkaaGreatDoor
namespace Rows

/-- THE TIED CARD OF 'braidlaw11.ModelNames'. -/
def modelNamesCard : Claim7 := { stood := { row := modelNamesRow, standIns := [], harness := (true, "0ca9b3dc94ca75dbcb449659514a5d5b785da522fa65ffb00bcedd5beb4fbc76"), looks := true }, kinds := [], alts := [], laidByText := true, laidKinds := [.data, .data, .data, .data, .sentinel, .sentinel, .data, .data, .data, .pinned], laidTests := true, laidLooks := .later }
def ModelNamesCardSaid : Prop := Claim7.holds Tryz.pinned (.plain (OpenSpec.ofChange modelNamesSpec)) modelNamesCard

/-- THE TIED CARD OF 'braidlaw11.ModelPuts'. -/
def modelPutsCard : Claim7 := { stood := { row := modelPutsRow, standIns := [], harness := (true, "0ca9b3dc94ca75dbcb449659514a5d5b785da522fa65ffb00bcedd5beb4fbc76"), looks := true }, kinds := [], alts := [], laidByText := true, laidKinds := [.data, .data, .data, .data, .sentinel, .sentinel, .data, .data, .data, .pinned], laidTests := true, laidLooks := .later }
def ModelPutsCardSaid : Prop := Claim7.holds Tryz.pinned (.plain (OpenSpec.ofChange modelPutsSpec)) modelPutsCard

/-- THE TIED CARD OF 'braidlaw11.ModelFuel'. -/
def modelFuelCard : Claim7 := { stood := { row := modelFuelRow, standIns := [], harness := (true, "0ca9b3dc94ca75dbcb449659514a5d5b785da522fa65ffb00bcedd5beb4fbc76"), looks := true }, kinds := [], alts := [], laidByText := true, laidKinds := [.data, .data, .data, .data, .sentinel, .sentinel, .data, .data, .data, .pinned], laidTests := true, laidLooks := .later }
def ModelFuelCardSaid : Prop := Claim7.holds Tryz.pinned (.plain (OpenSpec.ofChange modelFuelSpec)) modelFuelCard

/-- THE TIED CARD OF 'braidlaw11.ModelGiven'. -/
def modelGivenCard : Claim7 := { stood := { row := modelGivenRow, standIns := [], harness := (true, "0ca9b3dc94ca75dbcb449659514a5d5b785da522fa65ffb00bcedd5beb4fbc76"), looks := true }, kinds := [], alts := [], laidByText := true, laidKinds := [.data, .data, .data, .data, .sentinel, .sentinel, .data, .data, .data, .pinned], laidTests := true, laidLooks := .later }
def ModelGivenCardSaid : Prop := Claim7.holds Tryz.pinned (.plain (OpenSpec.ofChange modelGivenSpec)) modelGivenCard

/-- THE TIED CARD OF 'braidlaw11.ModelKeeps'. -/
def modelKeepsCard : Claim7 := { stood := { row := modelKeepsRow, standIns := [], harness := (true, "0ca9b3dc94ca75dbcb449659514a5d5b785da522fa65ffb00bcedd5beb4fbc76"), looks := true }, kinds := [], alts := [], laidByText := true, laidKinds := [.data, .data, .data, .data, .sentinel, .sentinel, .data, .data, .data, .pinned], laidTests := true, laidLooks := .later }
def ModelKeepsCardSaid : Prop := Claim7.holds Tryz.pinned (.plain (OpenSpec.ofChange modelKeepsSpec)) modelKeepsCard

/-- THE TIED CARD OF 'braidlaw11.ModelChain'. -/
def modelChainCard : Claim7 := { stood := { row := modelChainRow, standIns := [], harness := (true, "0ca9b3dc94ca75dbcb449659514a5d5b785da522fa65ffb00bcedd5beb4fbc76"), looks := true }, kinds := [], alts := [], laidByText := true, laidKinds := [.data, .data, .data, .data, .sentinel, .sentinel, .data, .data, .data, .pinned], laidTests := true, laidLooks := .later }
def ModelChainCardSaid : Prop := Claim7.holds Tryz.pinned (.plain (OpenSpec.ofChange modelChainSpec)) modelChainCard

/-- THE SECOND FORM's CARD OF 'braidlaw11.ModelNames'. -/
def modelNamesUptoCard : Claim7 := { stood := { row := modelNamesUptoRow, standIns := [], harness := (true, "0ca9b3dc94ca75dbcb449659514a5d5b785da522fa65ffb00bcedd5beb4fbc76"), looks := true }, kinds := [], alts := [], laidByText := true, laidKinds := [.data, .data, .data, .data, .sentinel, .sentinel, .data, .data, .data, .pinned], laidTests := true, laidLooks := .later }
def ModelNamesUptoCardSaid : Prop := Claim7.holds Tryz.pinned (.plain (OpenSpec.upto modelNamesSpec)) modelNamesUptoCard

/-- THE SECOND FORM's CARD OF 'braidlaw11.ModelPuts'. -/
def modelPutsUptoCard : Claim7 := { stood := { row := modelPutsUptoRow, standIns := [], harness := (true, "0ca9b3dc94ca75dbcb449659514a5d5b785da522fa65ffb00bcedd5beb4fbc76"), looks := true }, kinds := [], alts := [], laidByText := true, laidKinds := [.data, .data, .data, .data, .sentinel, .sentinel, .data, .data, .data, .pinned], laidTests := true, laidLooks := .later }
def ModelPutsUptoCardSaid : Prop := Claim7.holds Tryz.pinned (.plain (OpenSpec.upto modelPutsSpec)) modelPutsUptoCard

/-- THE SECOND FORM's CARD OF 'braidlaw11.ModelFuel'. -/
def modelFuelUptoCard : Claim7 := { stood := { row := modelFuelUptoRow, standIns := [], harness := (true, "0ca9b3dc94ca75dbcb449659514a5d5b785da522fa65ffb00bcedd5beb4fbc76"), looks := true }, kinds := [], alts := [], laidByText := true, laidKinds := [.data, .data, .data, .data, .sentinel, .sentinel, .data, .data, .data, .pinned], laidTests := true, laidLooks := .later }
def ModelFuelUptoCardSaid : Prop := Claim7.holds Tryz.pinned (.plain (OpenSpec.upto modelFuelSpec)) modelFuelUptoCard

/-- THE SECOND FORM's CARD OF 'braidlaw11.ModelGiven'. -/
def modelGivenUptoCard : Claim7 := { stood := { row := modelGivenUptoRow, standIns := [], harness := (true, "0ca9b3dc94ca75dbcb449659514a5d5b785da522fa65ffb00bcedd5beb4fbc76"), looks := true }, kinds := [], alts := [], laidByText := true, laidKinds := [.data, .data, .data, .data, .sentinel, .sentinel, .data, .data, .data, .pinned], laidTests := true, laidLooks := .later }
def ModelGivenUptoCardSaid : Prop := Claim7.holds Tryz.pinned (.plain (OpenSpec.upto modelGivenSpec)) modelGivenUptoCard

/-- THE SECOND FORM's CARD OF 'braidlaw11.ModelKeeps'. -/
def modelKeepsUptoCard : Claim7 := { stood := { row := modelKeepsUptoRow, standIns := [], harness := (true, "0ca9b3dc94ca75dbcb449659514a5d5b785da522fa65ffb00bcedd5beb4fbc76"), looks := true }, kinds := [], alts := [], laidByText := true, laidKinds := [.data, .data, .data, .data, .sentinel, .sentinel, .data, .data, .data, .pinned], laidTests := true, laidLooks := .later }
def ModelKeepsUptoCardSaid : Prop := Claim7.holds Tryz.pinned (.plain (OpenSpec.upto modelKeepsSpec)) modelKeepsUptoCard

/-- THE SECOND FORM's CARD OF 'braidlaw11.ModelChain'. -/
def modelChainUptoCard : Claim7 := { stood := { row := modelChainUptoRow, standIns := [], harness := (true, "0ca9b3dc94ca75dbcb449659514a5d5b785da522fa65ffb00bcedd5beb4fbc76"), looks := true }, kinds := [], alts := [], laidByText := true, laidKinds := [.data, .data, .data, .data, .sentinel, .sentinel, .data, .data, .data, .pinned], laidTests := true, laidLooks := .later }
def ModelChainUptoCardSaid : Prop := Claim7.holds Tryz.pinned (.plain (OpenSpec.upto modelChainSpec)) modelChainUptoCard
end Rows
end Go.Proofs.YtblcjohhelokkaaGreatDoor
