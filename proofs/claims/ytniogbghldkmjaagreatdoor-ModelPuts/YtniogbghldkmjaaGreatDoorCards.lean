/-
  DERIVED. GIVEN WITH THE SEED: THE CARDS: each row of YtniogbghldkmjaaGreatDoorRows.lean that lists a variable, with what it lists TIED to the program's text (the seventh form; the later family's looks); each row that meets fmt, with fmt's text TOLD by the authors' own Lean function (tested against real Go, not proved from fmt's source: count such statements apart). THE CARD IS WHAT COUNTS. Prove the row's statement (the work); the ties are given (YtniogbghldkmjaaGreatDoorTie.lean); close each card by the builder's one call (the guide's Derived/Test/ToyasCard.lean, 'card_holds'). Laid BY PROGRAM, IN A SANDBOX (cutbox-door.mjs). By AI agents, Wed Nov 11 2026. No macro, syntax, notation, axiom, sorry.
-/
import Derived.Test.YtniogbghldkmjaaGreatDoorRows
import GoSem.ClaimSeven
namespace Go.Proofs.YtniogbghldkmjaaGreatDoor
namespace Rows

/-- THE TIED CARD OF 'braidlaw11.ModelPuts'. -/
def modelPutsCard : Claim7 := { stood := { row := modelPutsRow, standIns := [], harness := (true, "f25a4de92aa4e3e923ab8e3b587d7e9d6c5ee66f7be3b0ceaefc8508b0c44f1c"), looks := true }, kinds := [], alts := [], laidByText := true, laidKinds := [.data, .data, .data, .data, .sentinel, .sentinel, .data, .data, .data, .pinned], laidTests := true, laidLooks := .later }
def ModelPutsCardSaid : Prop := Claim7.holds Tryz.pinned (.plain (OpenSpec.ofChange modelPutsSpec)) modelPutsCard

/-- THE TIED CARD OF 'braidlaw11.ModelChain'. -/
def modelChainCard : Claim7 := { stood := { row := modelChainRow, standIns := [], harness := (true, "f25a4de92aa4e3e923ab8e3b587d7e9d6c5ee66f7be3b0ceaefc8508b0c44f1c"), looks := true }, kinds := [], alts := [], laidByText := true, laidKinds := [.data, .data, .data, .data, .sentinel, .sentinel, .data, .data, .data, .pinned], laidTests := true, laidLooks := .later }
def ModelChainCardSaid : Prop := Claim7.holds Tryz.pinned (.plain (OpenSpec.ofChange modelChainSpec)) modelChainCard

/-- THE SECOND FORM's CARD OF 'braidlaw11.ModelPuts'. -/
def modelPutsUptoCard : Claim7 := { stood := { row := modelPutsUptoRow, standIns := [], harness := (true, "f25a4de92aa4e3e923ab8e3b587d7e9d6c5ee66f7be3b0ceaefc8508b0c44f1c"), looks := true }, kinds := [], alts := [], laidByText := true, laidKinds := [.data, .data, .data, .data, .sentinel, .sentinel, .data, .data, .data, .pinned], laidTests := true, laidLooks := .later }
def ModelPutsUptoCardSaid : Prop := Claim7.holds Tryz.pinned (.plain (OpenSpec.upto modelPutsSpec)) modelPutsUptoCard

/-- THE SECOND FORM's CARD OF 'braidlaw11.ModelChain'. -/
def modelChainUptoCard : Claim7 := { stood := { row := modelChainUptoRow, standIns := [], harness := (true, "f25a4de92aa4e3e923ab8e3b587d7e9d6c5ee66f7be3b0ceaefc8508b0c44f1c"), looks := true }, kinds := [], alts := [], laidByText := true, laidKinds := [.data, .data, .data, .data, .sentinel, .sentinel, .data, .data, .data, .pinned], laidTests := true, laidLooks := .later }
def ModelChainUptoCardSaid : Prop := Claim7.holds Tryz.pinned (.plain (OpenSpec.upto modelChainSpec)) modelChainUptoCard
end Rows
end Go.Proofs.YtniogbghldkmjaaGreatDoor
