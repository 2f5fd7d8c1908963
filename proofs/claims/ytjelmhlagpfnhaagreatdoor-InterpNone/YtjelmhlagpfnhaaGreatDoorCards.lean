/-
  DERIVED. GIVEN WITH THE SEED: THE CARDS: each row of YtjelmhlagpfnhaaGreatDoorRows.lean that lists a variable, with what it lists TIED to the program's text (the seventh form; the later family's looks); each row that meets fmt, with fmt's text TOLD by the authors' own Lean function (tested against real Go, not proved from fmt's source: count such statements apart). THE CARD IS WHAT COUNTS. Prove the row's statement (the work); the ties are given (YtjelmhlagpfnhaaGreatDoorTie.lean); close each card by the builder's one call (the guide's Derived/Test/ToyasCard.lean, 'card_holds'). Laid BY PROGRAM, IN A SANDBOX (cutbox-door.mjs). By AI agents, Wed Nov 11 2026. No macro, syntax, notation, axiom, sorry.
-/
import Derived.Test.YtjelmhlagpfnhaaGreatDoorRows
import GoSem.ClaimSeven
namespace Go.Proofs.YtjelmhlagpfnhaaGreatDoor
namespace Rows

/-- THE TIED CARD OF 'braidlaw12.InterpNone'. -/
def interpNoneCard : Claim7 := { stood := { row := interpNoneRow, standIns := [], harness := (true, "1d629f15650eb432fd267c8f9843dda16c1ade66473f057d4770ab01a33f3d9c"), looks := true }, kinds := [], alts := [], laidByText := true, laidKinds := [.data], laidTests := true, laidLooks := .later }
def InterpNoneCardSaid : Prop := Claim7.holds Tryz.pinned (.plain (OpenSpec.ofChange interpNoneSpec)) interpNoneCard

/-- THE TIED CARD OF 'braidlaw12.InterpCarries'. -/
def interpCarriesCard : Claim7 := { stood := { row := interpCarriesRow, standIns := [], harness := (true, "1d629f15650eb432fd267c8f9843dda16c1ade66473f057d4770ab01a33f3d9c"), looks := true }, kinds := [], alts := [], laidByText := true, laidKinds := [.data, .data, .data, .data], laidTests := true, laidLooks := .later }
def InterpCarriesCardSaid : Prop := Claim7.holds Tryz.pinned (.plain (OpenSpec.ofChange interpCarriesSpec)) interpCarriesCard

/-- THE TIED CARD OF 'braidlaw12.InterpSeries'. -/
def interpSeriesCard : Claim7 := { stood := { row := interpSeriesRow, standIns := [], harness := (true, "1d629f15650eb432fd267c8f9843dda16c1ade66473f057d4770ab01a33f3d9c"), looks := true }, kinds := [], alts := [], laidByText := true, laidKinds := [.data, .data, .data, .data], laidTests := true, laidLooks := .later }
def InterpSeriesCardSaid : Prop := Claim7.holds Tryz.pinned (.plain (OpenSpec.ofChange interpSeriesSpec)) interpSeriesCard

/-- THE TIED CARD OF 'braidlaw12.InterpAll'. -/
def interpAllCard : Claim7 := { stood := { row := interpAllRow, standIns := [], harness := (true, "1d629f15650eb432fd267c8f9843dda16c1ade66473f057d4770ab01a33f3d9c"), looks := true }, kinds := [], alts := [], laidByText := true, laidKinds := [.data, .data, .data, .data], laidTests := true, laidLooks := .later }
def InterpAllCardSaid : Prop := Claim7.holds Tryz.pinned (.plain (OpenSpec.ofChange interpAllSpec)) interpAllCard

/-- THE TIED CARD OF 'braidlaw12.InterpRows'. -/
def interpRowsCard : Claim7 := { stood := { row := interpRowsRow, standIns := [], harness := (true, "1d629f15650eb432fd267c8f9843dda16c1ade66473f057d4770ab01a33f3d9c"), looks := true }, kinds := [], alts := [], laidByText := true, laidKinds := [.data, .data, .data, .data], laidTests := true, laidLooks := .later }
def InterpRowsCardSaid : Prop := Claim7.holds Tryz.pinned (.plain (OpenSpec.ofChange interpRowsSpec)) interpRowsCard

/-- THE TIED CARD OF 'braidlaw12.InterpTells'. -/
def interpTellsCard : Claim7 := { stood := { row := interpTellsRow, standIns := [], harness := (true, "1d629f15650eb432fd267c8f9843dda16c1ade66473f057d4770ab01a33f3d9c"), looks := true }, kinds := [], alts := [], laidByText := true, laidKinds := [.data, .data, .data, .data], laidTests := true, laidLooks := .later }
def InterpTellsCardSaid : Prop := Claim7.holds Tryz.pinned (.plain (OpenSpec.ofChange interpTellsSpec)) interpTellsCard

/-- THE SECOND FORM's CARD OF 'braidlaw12.InterpNone'. -/
def interpNoneUptoCard : Claim7 := { stood := { row := interpNoneUptoRow, standIns := [], harness := (true, "1d629f15650eb432fd267c8f9843dda16c1ade66473f057d4770ab01a33f3d9c"), looks := true }, kinds := [], alts := [], laidByText := true, laidKinds := [.data], laidTests := true, laidLooks := .later }
def InterpNoneUptoCardSaid : Prop := Claim7.holds Tryz.pinned (.plain (OpenSpec.upto interpNoneSpec)) interpNoneUptoCard

/-- THE SECOND FORM's CARD OF 'braidlaw12.InterpCarries'. -/
def interpCarriesUptoCard : Claim7 := { stood := { row := interpCarriesUptoRow, standIns := [], harness := (true, "1d629f15650eb432fd267c8f9843dda16c1ade66473f057d4770ab01a33f3d9c"), looks := true }, kinds := [], alts := [], laidByText := true, laidKinds := [.data, .data, .data, .data], laidTests := true, laidLooks := .later }
def InterpCarriesUptoCardSaid : Prop := Claim7.holds Tryz.pinned (.plain (OpenSpec.upto interpCarriesSpec)) interpCarriesUptoCard

/-- THE SECOND FORM's CARD OF 'braidlaw12.InterpSeries'. -/
def interpSeriesUptoCard : Claim7 := { stood := { row := interpSeriesUptoRow, standIns := [], harness := (true, "1d629f15650eb432fd267c8f9843dda16c1ade66473f057d4770ab01a33f3d9c"), looks := true }, kinds := [], alts := [], laidByText := true, laidKinds := [.data, .data, .data, .data], laidTests := true, laidLooks := .later }
def InterpSeriesUptoCardSaid : Prop := Claim7.holds Tryz.pinned (.plain (OpenSpec.upto interpSeriesSpec)) interpSeriesUptoCard

/-- THE SECOND FORM's CARD OF 'braidlaw12.InterpAll'. -/
def interpAllUptoCard : Claim7 := { stood := { row := interpAllUptoRow, standIns := [], harness := (true, "1d629f15650eb432fd267c8f9843dda16c1ade66473f057d4770ab01a33f3d9c"), looks := true }, kinds := [], alts := [], laidByText := true, laidKinds := [.data, .data, .data, .data], laidTests := true, laidLooks := .later }
def InterpAllUptoCardSaid : Prop := Claim7.holds Tryz.pinned (.plain (OpenSpec.upto interpAllSpec)) interpAllUptoCard

/-- THE SECOND FORM's CARD OF 'braidlaw12.InterpRows'. -/
def interpRowsUptoCard : Claim7 := { stood := { row := interpRowsUptoRow, standIns := [], harness := (true, "1d629f15650eb432fd267c8f9843dda16c1ade66473f057d4770ab01a33f3d9c"), looks := true }, kinds := [], alts := [], laidByText := true, laidKinds := [.data, .data, .data, .data], laidTests := true, laidLooks := .later }
def InterpRowsUptoCardSaid : Prop := Claim7.holds Tryz.pinned (.plain (OpenSpec.upto interpRowsSpec)) interpRowsUptoCard

/-- THE SECOND FORM's CARD OF 'braidlaw12.InterpTells'. -/
def interpTellsUptoCard : Claim7 := { stood := { row := interpTellsUptoRow, standIns := [], harness := (true, "1d629f15650eb432fd267c8f9843dda16c1ade66473f057d4770ab01a33f3d9c"), looks := true }, kinds := [], alts := [], laidByText := true, laidKinds := [.data, .data, .data, .data], laidTests := true, laidLooks := .later }
def InterpTellsUptoCardSaid : Prop := Claim7.holds Tryz.pinned (.plain (OpenSpec.upto interpTellsSpec)) interpTellsUptoCard
end Rows
end Go.Proofs.YtjelmhlagpfnhaaGreatDoor
