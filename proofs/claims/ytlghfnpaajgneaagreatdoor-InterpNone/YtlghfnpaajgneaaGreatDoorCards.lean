/-
  DERIVED. GIVEN WITH THE SEED: THE CARDS: each row of YtlghfnpaajgneaaGreatDoorRows.lean that lists a variable, with what it lists TIED to the program's text (the seventh form; the later family's looks); each row that meets fmt, with fmt's text TOLD by the authors' own Lean function (tested against real Go, not proved from fmt's source: count such statements apart). THE CARD IS WHAT COUNTS. Prove the row's statement (the work); the ties are given (YtlghfnpaajgneaaGreatDoorTie.lean); close each card by the builder's one call (the guide's Derived/Test/ToyasCard.lean, 'card_holds'). Laid BY PROGRAM, IN A SANDBOX (cutbox-door.mjs). By AI agents, Wed Nov 11 2026. No macro, syntax, notation, axiom, sorry.
-/
import Derived.Test.YtlghfnpaajgneaaGreatDoorRows
import GoSem.ClaimSeven
namespace Go.Proofs.YtlghfnpaajgneaaGreatDoor
namespace Rows

/-- THE TIED CARD OF 'braidlaw12.InterpNone'. -/
def interpNoneCard : Claim7 := { stood := { row := interpNoneRow, standIns := [], harness := (true, "507f8b36b94654a029d0a0d092323c453cea24bfa13a333537b948bde7b0c70b"), looks := true }, kinds := [], alts := [], laidByText := true, laidKinds := [.data], laidTests := true, laidLooks := .later }
def InterpNoneCardSaid : Prop := Claim7.holds Tryz.pinned (.plain (OpenSpec.ofChange interpNoneSpec)) interpNoneCard

/-- THE SECOND FORM's CARD OF 'braidlaw12.InterpNone'. -/
def interpNoneUptoCard : Claim7 := { stood := { row := interpNoneUptoRow, standIns := [], harness := (true, "507f8b36b94654a029d0a0d092323c453cea24bfa13a333537b948bde7b0c70b"), looks := true }, kinds := [], alts := [], laidByText := true, laidKinds := [.data], laidTests := true, laidLooks := .later }
def InterpNoneUptoCardSaid : Prop := Claim7.holds Tryz.pinned (.plain (OpenSpec.upto interpNoneSpec)) interpNoneUptoCard
end Rows
end Go.Proofs.YtlghfnpaajgneaaGreatDoor
