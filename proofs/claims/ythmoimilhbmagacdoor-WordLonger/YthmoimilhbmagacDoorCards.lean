/-
  DERIVED. GIVEN WITH THE SEED: THE CARDS: each row of YthmoimilhbmagacDoorRows.lean that lists a variable, with what it lists TIED to the program's text (the seventh form; the later family's looks); each row that meets fmt, with fmt's text TOLD by the authors' own Lean function (tested against real Go, not proved from fmt's source: count such statements apart). THE CARD IS WHAT COUNTS. Prove the row's statement (the work); the ties are given (YthmoimilhbmagacDoorTie.lean); close each card by the builder's one call (the guide's Derived/Test/ToyasCard.lean, 'card_holds'). Laid BY PROGRAM, IN A SANDBOX (cutbox-door.mjs). By AI agents, Wed Nov 11 2026. No macro, syntax, notation, axiom, sorry.
-/
import Derived.Test.YthmoimilhbmagacDoorRows
import GoSem.ClaimSeven
namespace Go.Proofs.YthmoimilhbmagacDoor
namespace Rows

/-- THE TIED CARD OF 'braidlaw01.WordRound'. -/
def wordRoundCard : Claim7 := { stood := { row := wordRoundRow, standIns := [], harness := (true, "b5c9376aa1d862cf1f33fb6401b3de464815a459f9f4e391f3513846322cfb13"), looks := true }, kinds := [], alts := [], laidByText := true, laidKinds := [.data, .data, .data, .sentinel, .sentinel], laidTests := true, laidLooks := .later }
def WordRoundCardSaid : Prop := Claim7.holds Tryd.pinned (.plain (OpenSpec.ofChange wordRoundSpec)) wordRoundCard

/-- THE TIED CARD OF 'braidlaw01.WordTexts'. -/
def wordTextsCard : Claim7 := { stood := { row := wordTextsRow, standIns := [], harness := (true, "b5c9376aa1d862cf1f33fb6401b3de464815a459f9f4e391f3513846322cfb13"), looks := true }, kinds := [], alts := [], laidByText := true, laidKinds := [.data, .data, .data, .sentinel, .sentinel], laidTests := true, laidLooks := .later }
def WordTextsCardSaid : Prop := Claim7.holds Tryd.pinned (.plain (OpenSpec.ofChange wordTextsSpec)) wordTextsCard

/-- THE TIED CARD OF 'braidlaw01.WordLonger'. -/
def wordLongerCard : Claim7 := { stood := { row := wordLongerRow, standIns := [], harness := (true, "b5c9376aa1d862cf1f33fb6401b3de464815a459f9f4e391f3513846322cfb13"), looks := true }, kinds := [], alts := [], laidByText := true, laidKinds := [.data, .data, .data, .sentinel, .sentinel], laidTests := true, laidLooks := .later }
def WordLongerCardSaid : Prop := Claim7.holds Tryd.pinned (.plain (OpenSpec.ofChange wordLongerSpec)) wordLongerCard

/-- THE SECOND FORM's CARD OF 'braidlaw01.WordRound'. -/
def wordRoundUptoCard : Claim7 := { stood := { row := wordRoundUptoRow, standIns := [], harness := (true, "b5c9376aa1d862cf1f33fb6401b3de464815a459f9f4e391f3513846322cfb13"), looks := true }, kinds := [], alts := [], laidByText := true, laidKinds := [.data, .data, .data, .sentinel, .sentinel], laidTests := true, laidLooks := .later }
def WordRoundUptoCardSaid : Prop := Claim7.holds Tryd.pinned (.plain (OpenSpec.upto wordRoundSpec)) wordRoundUptoCard

/-- THE SECOND FORM's CARD OF 'braidlaw01.WordTexts'. -/
def wordTextsUptoCard : Claim7 := { stood := { row := wordTextsUptoRow, standIns := [], harness := (true, "b5c9376aa1d862cf1f33fb6401b3de464815a459f9f4e391f3513846322cfb13"), looks := true }, kinds := [], alts := [], laidByText := true, laidKinds := [.data, .data, .data, .sentinel, .sentinel], laidTests := true, laidLooks := .later }
def WordTextsUptoCardSaid : Prop := Claim7.holds Tryd.pinned (.plain (OpenSpec.upto wordTextsSpec)) wordTextsUptoCard

/-- THE SECOND FORM's CARD OF 'braidlaw01.WordLonger'. -/
def wordLongerUptoCard : Claim7 := { stood := { row := wordLongerUptoRow, standIns := [], harness := (true, "b5c9376aa1d862cf1f33fb6401b3de464815a459f9f4e391f3513846322cfb13"), looks := true }, kinds := [], alts := [], laidByText := true, laidKinds := [.data, .data, .data, .sentinel, .sentinel], laidTests := true, laidLooks := .later }
def WordLongerUptoCardSaid : Prop := Claim7.holds Tryd.pinned (.plain (OpenSpec.upto wordLongerSpec)) wordLongerUptoCard
end Rows
end Go.Proofs.YthmoimilhbmagacDoor
