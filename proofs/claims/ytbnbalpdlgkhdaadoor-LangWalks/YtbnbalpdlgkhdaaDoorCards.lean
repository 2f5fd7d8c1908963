/-
  DERIVED. GIVEN WITH THE SEED: THE CARDS: each row of YtbnbalpdlgkhdaaDoorRows.lean that lists a variable, with what it lists TIED to the program's text (the seventh form; the later family's looks); each row that meets fmt, with fmt's text TOLD by the authors' own Lean function (tested against real Go, not proved from fmt's source: count such statements apart). THE CARD IS WHAT COUNTS. Prove the row's statement (the work); the ties are given (YtbnbalpdlgkhdaaDoorTie.lean); close each card by the builder's one call (the guide's Derived/Test/ToyasCard.lean, 'card_holds'). Laid BY PROGRAM, IN A SANDBOX (cutbox-door.mjs). By AI agents, Wed Nov 11 2026. No macro, syntax, notation, axiom, sorry.
-/
import Derived.Test.YtbnbalpdlgkhdaaDoorRows
import GoSem.ClaimSeven
namespace Go.Proofs.YtbnbalpdlgkhdaaDoor
namespace Rows

/-- THE TIED CARD OF 'braidlaw10.LangWalks'. -/
def langWalksCard : Claim7 := { stood := { row := langWalksRow, standIns := [], harness := (true, "945d17643eae1bba11176a2c67891ecb09c695abfbe6ba75a9dfd499e225c72e"), looks := false }, kinds := [], alts := [], laidByText := true, laidKinds := [.data, .data, .data], laidTests := true, laidLooks := .later }
def LangWalksCardSaid : Prop := Claim7.holds Tryd.pinned (.plain (OpenSpec.ofChange langWalksSpec)) langWalksCard

/-- THE SECOND FORM's CARD OF 'braidlaw10.LangWalks'. -/
def langWalksUptoCard : Claim7 := { stood := { row := langWalksUptoRow, standIns := [], harness := (true, "945d17643eae1bba11176a2c67891ecb09c695abfbe6ba75a9dfd499e225c72e"), looks := false }, kinds := [], alts := [], laidByText := true, laidKinds := [.data, .data, .data], laidTests := true, laidLooks := .later }
def LangWalksUptoCardSaid : Prop := Claim7.holds Tryd.pinned (.plain (OpenSpec.upto langWalksSpec)) langWalksUptoCard
end Rows
end Go.Proofs.YtbnbalpdlgkhdaaDoor
