/-
  DERIVED. GIVEN WITH THE SEED: THE CARDS: each row of YtgjndhbfjofkeaaGreatDoorRows.lean that lists a variable, with what it lists TIED to the program's text (the seventh form; the later family's looks); each row that meets fmt, with fmt's text TOLD by the authors' own Lean function (tested against real Go, not proved from fmt's source: count such statements apart). THE CARD IS WHAT COUNTS. Prove the row's statement (the work); the ties are given (YtgjndhbfjofkeaaGreatDoorTie.lean); close each card by the builder's one call (the guide's Derived/Test/ToyasCard.lean, 'card_holds'). Laid BY PROGRAM, IN A SANDBOX (cutbox-door.mjs). By AI agents, Wed Nov 11 2026. No macro, syntax, notation, axiom, sorry.
-/
import Derived.Test.YtgjndhbfjofkeaaGreatDoorRows
import GoSem.ClaimSeven
namespace Go.Proofs.YtgjndhbfjofkeaaGreatDoor
namespace Rows

/-- THE TIED CARD OF 'braidlaw09.RetryStamps'. -/
def retryStampsCard : Claim7 := { stood := { row := retryStampsRow, standIns := [], harness := (true, "c3177e1210047ba9c7a3074eb8f2248beedf12d03f69f63f8f2c53e2c7cce9c8"), looks := true }, kinds := [], alts := [], laidByText := true, laidKinds := [.data], laidTests := true, laidLooks := .later }
def RetryStampsCardSaid : Prop := Claim7.holds Tryz.pinned (.plain (OpenSpec.ofChange retryStampsSpec)) retryStampsCard

/-- THE TIED CARD OF 'braidlaw09.RetryRanks'. -/
def retryRanksCard : Claim7 := { stood := { row := retryRanksRow, standIns := [], harness := (true, "c3177e1210047ba9c7a3074eb8f2248beedf12d03f69f63f8f2c53e2c7cce9c8"), looks := true }, kinds := [], alts := [], laidByText := true, laidKinds := [.data], laidTests := true, laidLooks := .later }
def RetryRanksCardSaid : Prop := Claim7.holds Tryz.pinned (.plain (OpenSpec.ofChange retryRanksSpec)) retryRanksCard

/-- THE TIED CARD OF 'braidlaw09.RetryOnce'. -/
def retryOnceCard : Claim7 := { stood := { row := retryOnceRow, standIns := [], harness := (true, "c3177e1210047ba9c7a3074eb8f2248beedf12d03f69f63f8f2c53e2c7cce9c8"), looks := true }, kinds := [], alts := [], laidByText := true, laidKinds := [.data], laidTests := true, laidLooks := .later }
def RetryOnceCardSaid : Prop := Claim7.holds Tryz.pinned (.plain (OpenSpec.ofChange retryOnceSpec)) retryOnceCard

/-- THE TIED CARD OF 'braidlaw09.RetryClean'. -/
def retryCleanCard : Claim7 := { stood := { row := retryCleanRow, standIns := [], harness := (true, "c3177e1210047ba9c7a3074eb8f2248beedf12d03f69f63f8f2c53e2c7cce9c8"), looks := true }, kinds := [], alts := [], laidByText := true, laidKinds := [.data], laidTests := true, laidLooks := .later }
def RetryCleanCardSaid : Prop := Claim7.holds Tryz.pinned (.plain (OpenSpec.ofChange retryCleanSpec)) retryCleanCard

/-- THE TIED CARD OF 'braidlaw09.RetryComes'. -/
def retryComesCard : Claim7 := { stood := { row := retryComesRow, standIns := [], harness := (true, "c3177e1210047ba9c7a3074eb8f2248beedf12d03f69f63f8f2c53e2c7cce9c8"), looks := true }, kinds := [], alts := [], laidByText := true, laidKinds := [.data], laidTests := true, laidLooks := .later }
def RetryComesCardSaid : Prop := Claim7.holds Tryz.pinned (.plain (OpenSpec.ofChange retryComesSpec)) retryComesCard

/-- THE SECOND FORM's CARD OF 'braidlaw09.RetryStamps'. -/
def retryStampsUptoCard : Claim7 := { stood := { row := retryStampsUptoRow, standIns := [], harness := (true, "c3177e1210047ba9c7a3074eb8f2248beedf12d03f69f63f8f2c53e2c7cce9c8"), looks := true }, kinds := [], alts := [], laidByText := true, laidKinds := [.data], laidTests := true, laidLooks := .later }
def RetryStampsUptoCardSaid : Prop := Claim7.holds Tryz.pinned (.plain (OpenSpec.upto retryStampsSpec)) retryStampsUptoCard

/-- THE SECOND FORM's CARD OF 'braidlaw09.RetryRanks'. -/
def retryRanksUptoCard : Claim7 := { stood := { row := retryRanksUptoRow, standIns := [], harness := (true, "c3177e1210047ba9c7a3074eb8f2248beedf12d03f69f63f8f2c53e2c7cce9c8"), looks := true }, kinds := [], alts := [], laidByText := true, laidKinds := [.data], laidTests := true, laidLooks := .later }
def RetryRanksUptoCardSaid : Prop := Claim7.holds Tryz.pinned (.plain (OpenSpec.upto retryRanksSpec)) retryRanksUptoCard

/-- THE SECOND FORM's CARD OF 'braidlaw09.RetryOnce'. -/
def retryOnceUptoCard : Claim7 := { stood := { row := retryOnceUptoRow, standIns := [], harness := (true, "c3177e1210047ba9c7a3074eb8f2248beedf12d03f69f63f8f2c53e2c7cce9c8"), looks := true }, kinds := [], alts := [], laidByText := true, laidKinds := [.data], laidTests := true, laidLooks := .later }
def RetryOnceUptoCardSaid : Prop := Claim7.holds Tryz.pinned (.plain (OpenSpec.upto retryOnceSpec)) retryOnceUptoCard

/-- THE SECOND FORM's CARD OF 'braidlaw09.RetryClean'. -/
def retryCleanUptoCard : Claim7 := { stood := { row := retryCleanUptoRow, standIns := [], harness := (true, "c3177e1210047ba9c7a3074eb8f2248beedf12d03f69f63f8f2c53e2c7cce9c8"), looks := true }, kinds := [], alts := [], laidByText := true, laidKinds := [.data], laidTests := true, laidLooks := .later }
def RetryCleanUptoCardSaid : Prop := Claim7.holds Tryz.pinned (.plain (OpenSpec.upto retryCleanSpec)) retryCleanUptoCard

/-- THE SECOND FORM's CARD OF 'braidlaw09.RetryComes'. -/
def retryComesUptoCard : Claim7 := { stood := { row := retryComesUptoRow, standIns := [], harness := (true, "c3177e1210047ba9c7a3074eb8f2248beedf12d03f69f63f8f2c53e2c7cce9c8"), looks := true }, kinds := [], alts := [], laidByText := true, laidKinds := [.data], laidTests := true, laidLooks := .later }
def RetryComesUptoCardSaid : Prop := Claim7.holds Tryz.pinned (.plain (OpenSpec.upto retryComesSpec)) retryComesUptoCard
end Rows
end Go.Proofs.YtgjndhbfjofkeaaGreatDoor
