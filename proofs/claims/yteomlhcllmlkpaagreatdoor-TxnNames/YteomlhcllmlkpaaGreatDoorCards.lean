/-
  DERIVED. GIVEN WITH THE SEED: THE CARDS: each row of YteomlhcllmlkpaaGreatDoorRows.lean that lists a variable, with what it lists TIED to the program's text (the seventh form; the later family's looks); each row that meets fmt, with fmt's text TOLD by the authors' own Lean function (tested against real Go, not proved from fmt's source: count such statements apart). THE CARD IS WHAT COUNTS. Prove the row's statement (the work); the ties are given (YteomlhcllmlkpaaGreatDoorTie.lean); close each card by the builder's one call (the guide's Derived/Test/ToyasCard.lean, 'card_holds'). Laid BY PROGRAM, IN A SANDBOX (cutbox-door.mjs). By AI agents, Wed Nov 11 2026. No macro, syntax, notation, axiom, sorry.
-/
import Derived.Test.YteomlhcllmlkpaaGreatDoorRows
import GoSem.ClaimSeven
namespace Go.Proofs.YteomlhcllmlkpaaGreatDoor
namespace Rows

/-- THE TIED CARD OF 'braidlaw08.TxnNames'. -/
def txnNamesCard : Claim7 := { stood := { row := txnNamesRow, standIns := [], harness := (true, "340e771b8762618142864b1b2aa0b564e6d596ffd5ff443de18c797e7151ec1e"), looks := true }, kinds := [], alts := [], laidByText := true, laidKinds := [.data], laidTests := true, laidLooks := .later }
def TxnNamesCardSaid : Prop := Claim7.holds Tryz.pinned (.plain (OpenSpec.ofChange txnNamesSpec)) txnNamesCard

/-- THE SECOND FORM's CARD OF 'braidlaw08.TxnNames'. -/
def txnNamesUptoCard : Claim7 := { stood := { row := txnNamesUptoRow, standIns := [], harness := (true, "340e771b8762618142864b1b2aa0b564e6d596ffd5ff443de18c797e7151ec1e"), looks := true }, kinds := [], alts := [], laidByText := true, laidKinds := [.data], laidTests := true, laidLooks := .later }
def TxnNamesUptoCardSaid : Prop := Claim7.holds Tryz.pinned (.plain (OpenSpec.upto txnNamesSpec)) txnNamesUptoCard
end Rows
end Go.Proofs.YteomlhcllmlkpaaGreatDoor
