/-
  DERIVED. GIVEN WITH THE SEED: THE CARDS: each row of YtkfeccocaokdlaaDoorRows.lean that lists a variable, with what it lists TIED to the program's text (the seventh form; the later family's looks); each row that meets fmt, with fmt's text TOLD by the authors' own Lean function (tested against real Go, not proved from fmt's source: count such statements apart). THE CARD IS WHAT COUNTS. Prove the row's statement (the work); the ties are given (YtkfeccocaokdlaaDoorTie.lean); close each card by the builder's one call (the guide's Derived/Test/ToyasCard.lean, 'card_holds'). Laid BY PROGRAM, IN A SANDBOX (cutbox-door.mjs). By AI agents, Wed Nov 11 2026. No macro, syntax, notation, axiom, sorry.
-/
import Derived.Test.YtkfeccocaokdlaaDoorRows
import GoSem.ClaimSeven
namespace Go.Proofs.YtkfeccocaokdlaaDoor
namespace Rows

/-- THE TIED CARD OF 'braidlaw10.LangWalks'. -/
def langWalksCard : Claim7 := { stood := { row := langWalksRow, standIns := [], harness := (true, "e4e6ba69409be6cd07035d91c536f2aee731c592b1868b68964c498660053b66"), looks := true }, kinds := [], alts := [], laidByText := true, laidKinds := [.data, .data, .data], laidTests := true, laidLooks := .later }
def LangWalksCardSaid : Prop := Claim7.holds Tryd.pinned (.plain (OpenSpec.ofChange langWalksSpec)) langWalksCard

/-- THE TIED CARD OF 'braidlaw10.LangPrints'. -/
def langPrintsCard : Claim7 := { stood := { row := langPrintsRow, standIns := [], harness := (true, "e4e6ba69409be6cd07035d91c536f2aee731c592b1868b68964c498660053b66"), looks := true }, kinds := [], alts := [], laidByText := true, laidKinds := [.data, .data, .data, .data, .data, .data], laidTests := true, laidLooks := .later }
def LangPrintsCardSaid : Prop := Claim7.holds Tryd.pinned (.plain (OpenSpec.ofChange langPrintsSpec)) langPrintsCard

/-- THE TIED CARD OF 'braidlaw10.LangCut'. -/
def langCutCard : Claim7 := { stood := { row := langCutRow, standIns := [], harness := (true, "e4e6ba69409be6cd07035d91c536f2aee731c592b1868b68964c498660053b66"), looks := true }, kinds := [], alts := [], laidByText := true, laidKinds := [.data, .data, .data, .data, .sentinel, .sentinel, .data, .data, .data, .pinned], laidTests := true, laidLooks := .later }
def LangCutCardSaid : Prop := Claim7.holds Tryd.pinned (.plain (OpenSpec.ofChange langCutSpec)) langCutCard

/-- THE TIED CARD OF 'braidlaw10.LangNames'. -/
def langNamesCard : Claim7 := { stood := { row := langNamesRow, standIns := [], harness := (true, "e4e6ba69409be6cd07035d91c536f2aee731c592b1868b68964c498660053b66"), looks := true }, kinds := [], alts := [], laidByText := true, laidKinds := [.data, .data, .data, .data, .sentinel, .sentinel, .data, .data, .data, .pinned], laidTests := true, laidLooks := .later }
def LangNamesCardSaid : Prop := Claim7.holds Tryd.pinned (.plain (OpenSpec.ofChange langNamesSpec)) langNamesCard

/-- THE TIED CARD OF 'braidlaw10.LangFresh'. -/
def langFreshCard : Claim7 := { stood := { row := langFreshRow, standIns := [], harness := (true, "e4e6ba69409be6cd07035d91c536f2aee731c592b1868b68964c498660053b66"), looks := true }, kinds := [], alts := [], laidByText := true, laidKinds := [.data, .data, .data, .data, .sentinel, .sentinel, .data, .data, .data, .pinned], laidTests := true, laidLooks := .later }
def LangFreshCardSaid : Prop := Claim7.holds Tryd.pinned (.plain (OpenSpec.ofChange langFreshSpec)) langFreshCard

/-- THE TIED CARD OF 'braidlaw10.LangDress'. -/
def langDressCard : Claim7 := { stood := { row := langDressRow, standIns := [], harness := (true, "e4e6ba69409be6cd07035d91c536f2aee731c592b1868b68964c498660053b66"), looks := true }, kinds := [], alts := [], laidByText := true, laidKinds := [.data, .data, .data, .data, .sentinel, .sentinel, .data, .data, .data, .pinned], laidTests := true, laidLooks := .later }
def LangDressCardSaid : Prop := Claim7.holds Tryd.pinned (.plain (OpenSpec.ofChange langDressSpec)) langDressCard

/-- THE SECOND FORM's CARD OF 'braidlaw10.LangWalks'. -/
def langWalksUptoCard : Claim7 := { stood := { row := langWalksUptoRow, standIns := [], harness := (true, "e4e6ba69409be6cd07035d91c536f2aee731c592b1868b68964c498660053b66"), looks := true }, kinds := [], alts := [], laidByText := true, laidKinds := [.data, .data, .data], laidTests := true, laidLooks := .later }
def LangWalksUptoCardSaid : Prop := Claim7.holds Tryd.pinned (.plain (OpenSpec.upto langWalksSpec)) langWalksUptoCard

/-- THE SECOND FORM's CARD OF 'braidlaw10.LangPrints'. -/
def langPrintsUptoCard : Claim7 := { stood := { row := langPrintsUptoRow, standIns := [], harness := (true, "e4e6ba69409be6cd07035d91c536f2aee731c592b1868b68964c498660053b66"), looks := true }, kinds := [], alts := [], laidByText := true, laidKinds := [.data, .data, .data, .data, .data, .data], laidTests := true, laidLooks := .later }
def LangPrintsUptoCardSaid : Prop := Claim7.holds Tryd.pinned (.plain (OpenSpec.upto langPrintsSpec)) langPrintsUptoCard

/-- THE SECOND FORM's CARD OF 'braidlaw10.LangCut'. -/
def langCutUptoCard : Claim7 := { stood := { row := langCutUptoRow, standIns := [], harness := (true, "e4e6ba69409be6cd07035d91c536f2aee731c592b1868b68964c498660053b66"), looks := true }, kinds := [], alts := [], laidByText := true, laidKinds := [.data, .data, .data, .data, .sentinel, .sentinel, .data, .data, .data, .pinned], laidTests := true, laidLooks := .later }
def LangCutUptoCardSaid : Prop := Claim7.holds Tryd.pinned (.plain (OpenSpec.upto langCutSpec)) langCutUptoCard

/-- THE SECOND FORM's CARD OF 'braidlaw10.LangNames'. -/
def langNamesUptoCard : Claim7 := { stood := { row := langNamesUptoRow, standIns := [], harness := (true, "e4e6ba69409be6cd07035d91c536f2aee731c592b1868b68964c498660053b66"), looks := true }, kinds := [], alts := [], laidByText := true, laidKinds := [.data, .data, .data, .data, .sentinel, .sentinel, .data, .data, .data, .pinned], laidTests := true, laidLooks := .later }
def LangNamesUptoCardSaid : Prop := Claim7.holds Tryd.pinned (.plain (OpenSpec.upto langNamesSpec)) langNamesUptoCard

/-- THE SECOND FORM's CARD OF 'braidlaw10.LangFresh'. -/
def langFreshUptoCard : Claim7 := { stood := { row := langFreshUptoRow, standIns := [], harness := (true, "e4e6ba69409be6cd07035d91c536f2aee731c592b1868b68964c498660053b66"), looks := true }, kinds := [], alts := [], laidByText := true, laidKinds := [.data, .data, .data, .data, .sentinel, .sentinel, .data, .data, .data, .pinned], laidTests := true, laidLooks := .later }
def LangFreshUptoCardSaid : Prop := Claim7.holds Tryd.pinned (.plain (OpenSpec.upto langFreshSpec)) langFreshUptoCard

/-- THE SECOND FORM's CARD OF 'braidlaw10.LangDress'. -/
def langDressUptoCard : Claim7 := { stood := { row := langDressUptoRow, standIns := [], harness := (true, "e4e6ba69409be6cd07035d91c536f2aee731c592b1868b68964c498660053b66"), looks := true }, kinds := [], alts := [], laidByText := true, laidKinds := [.data, .data, .data, .data, .sentinel, .sentinel, .data, .data, .data, .pinned], laidTests := true, laidLooks := .later }
def LangDressUptoCardSaid : Prop := Claim7.holds Tryd.pinned (.plain (OpenSpec.upto langDressSpec)) langDressUptoCard
end Rows
end Go.Proofs.YtkfeccocaokdlaaDoor
