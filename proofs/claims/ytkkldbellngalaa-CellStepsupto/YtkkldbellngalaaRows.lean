/-
  No cell of these rows narrows 'for every input' (looked for: loops, veiled, ifaces, maps, wideKeys, modest, calm, conditions, laid).
  DERIVED. THE GIVEN ROWS OF THIS SEAT. 6 by the template 'for every input the law returns true; each argument reads behind the call as it read before'; 0 by the template 'total and deterministic' (their statements: YtkkldbellngalaaTotals.lean).
  GIVEN WITH THE SEED: the statements are not yours to turn. If you find one false, say at which input.
  Laid BY PROGRAM, IN A SANDBOX (cutbox-rows.mjs): the forced cells as the released guide's own fill.sh prints them over the translation e30541a64cb4c1ee… (all of the seat's roots in one cut). By AI agents, Wed Nov 11 2026. No macro, syntax, notation, axiom, sorry.
-/
import Derived.Test.YtkkldbellngalaaChecked
import GoSem.Claim
import GoSem.ClaimJoined
import GoSem.ClaimMapViews
import Derived.JoinedTies
import Derived.KernelRfl
namespace Go.Proofs.Ytkkldbellngalaa
/- THE CELL 'sum', in the pinned program and in every row, IS THE sha256 OF THE DUMP (.gsa) THAT YtkkldbellngalaaProg.lean LOADS. Nothing in Lean hashes anything: it is a label: what it is worth is what the hold of that sum in a sandbox is worth. -/
noncomputable def Try.pinned : Pinned := { name := "ytkkldbellngalaa", sum := "e30541a64cb4c1ee329538e862211adbb55e8d41cd33411ecf1aad7f0af4aa4f", checked := Try.checked }
namespace Rows
def none {H : Type} : Left H := { results := [], args := [] }

/-- 'braidlaw03.CellAll': WHATEVER THE INPUT: true; the input reads as it did. -/
def cellAllSpec : ChangeSpec := { name := "cellAll", fn := fun _ => fun
  | [d] => { results := [.lit (.bool true)], args := [d] }
  | _ => none }
def cellAllRow : OpenClaim := { program := "ytkkldbellngalaa", sum := "e30541a64cb4c1ee329538e862211adbb55e8d41cd33411ecf1aad7f0af4aa4f", func := "braid/braidlaw03.CellAll", spec := "cellAll", unfollowed := true, recurses := true, apart := false }
def CellAllSaid : Prop := cellAllRow.holds Try.pinned (OpenSpec.ofChange cellAllSpec)

/-- ITS FALSE NEIGHBOUR: 'it returns false'. Refute it at one input. -/
def cellAllWrong : ChangeSpec := { name := "cellAll", fn := fun _ => fun
  | [d] => { results := [.lit (.bool false)], args := [d] }
  | _ => none }
def CellAllWrongFalsely : Prop := cellAllRow.holds Try.pinned (OpenSpec.ofChange cellAllWrong)

/-- 'braidlaw03.CellMakes': WHATEVER THE INPUT: true; the input reads as it did. -/
def cellMakesSpec : ChangeSpec := { name := "cellMakes", fn := fun _ => fun
  | [d] => { results := [.lit (.bool true)], args := [d] }
  | _ => none }
def cellMakesRow : OpenClaim := { program := "ytkkldbellngalaa", sum := "e30541a64cb4c1ee329538e862211adbb55e8d41cd33411ecf1aad7f0af4aa4f", func := "braid/braidlaw03.CellMakes", spec := "cellMakes", unfollowed := true, recurses := true, apart := false }
def CellMakesSaid : Prop := cellMakesRow.holds Try.pinned (OpenSpec.ofChange cellMakesSpec)

/-- ITS FALSE NEIGHBOUR: 'it returns false'. Refute it at one input. -/
def cellMakesWrong : ChangeSpec := { name := "cellMakes", fn := fun _ => fun
  | [d] => { results := [.lit (.bool false)], args := [d] }
  | _ => none }
def CellMakesWrongFalsely : Prop := cellMakesRow.holds Try.pinned (OpenSpec.ofChange cellMakesWrong)

/-- 'braidlaw03.CellSteps': WHATEVER THE INPUT: true; the input reads as it did. -/
def cellStepsSpec : ChangeSpec := { name := "cellSteps", fn := fun _ => fun
  | [d] => { results := [.lit (.bool true)], args := [d] }
  | _ => none }
def cellStepsRow : OpenClaim := { program := "ytkkldbellngalaa", sum := "e30541a64cb4c1ee329538e862211adbb55e8d41cd33411ecf1aad7f0af4aa4f", func := "braid/braidlaw03.CellSteps", spec := "cellSteps", unfollowed := true, recurses := true, apart := false }
def CellStepsSaid : Prop := cellStepsRow.holds Try.pinned (OpenSpec.ofChange cellStepsSpec)

/-- ITS FALSE NEIGHBOUR: 'it returns false'. Refute it at one input. -/
def cellStepsWrong : ChangeSpec := { name := "cellSteps", fn := fun _ => fun
  | [d] => { results := [.lit (.bool false)], args := [d] }
  | _ => none }
def CellStepsWrongFalsely : Prop := cellStepsRow.holds Try.pinned (OpenSpec.ofChange cellStepsWrong)

/-- 'braidlaw03.CellTakes': WHATEVER THE INPUT: true; the input reads as it did. -/
def cellTakesSpec : ChangeSpec := { name := "cellTakes", fn := fun _ => fun
  | [d] => { results := [.lit (.bool true)], args := [d] }
  | _ => none }
def cellTakesRow : OpenClaim := { program := "ytkkldbellngalaa", sum := "e30541a64cb4c1ee329538e862211adbb55e8d41cd33411ecf1aad7f0af4aa4f", func := "braid/braidlaw03.CellTakes", spec := "cellTakes", unfollowed := true, recurses := true, apart := false }
def CellTakesSaid : Prop := cellTakesRow.holds Try.pinned (OpenSpec.ofChange cellTakesSpec)

/-- ITS FALSE NEIGHBOUR: 'it returns false'. Refute it at one input. -/
def cellTakesWrong : ChangeSpec := { name := "cellTakes", fn := fun _ => fun
  | [d] => { results := [.lit (.bool false)], args := [d] }
  | _ => none }
def CellTakesWrongFalsely : Prop := cellTakesRow.holds Try.pinned (OpenSpec.ofChange cellTakesWrong)

/-- 'braidlaw03.CellSees': WHATEVER THE INPUT: true; the input reads as it did. -/
def cellSeesSpec : ChangeSpec := { name := "cellSees", fn := fun _ => fun
  | [d] => { results := [.lit (.bool true)], args := [d] }
  | _ => none }
def cellSeesRow : OpenClaim := { program := "ytkkldbellngalaa", sum := "e30541a64cb4c1ee329538e862211adbb55e8d41cd33411ecf1aad7f0af4aa4f", func := "braid/braidlaw03.CellSees", spec := "cellSees", unfollowed := true, recurses := true, apart := false }
def CellSeesSaid : Prop := cellSeesRow.holds Try.pinned (OpenSpec.ofChange cellSeesSpec)

/-- ITS FALSE NEIGHBOUR: 'it returns false'. Refute it at one input. -/
def cellSeesWrong : ChangeSpec := { name := "cellSees", fn := fun _ => fun
  | [d] => { results := [.lit (.bool false)], args := [d] }
  | _ => none }
def CellSeesWrongFalsely : Prop := cellSeesRow.holds Try.pinned (OpenSpec.ofChange cellSeesWrong)

/-- 'braidlaw03.CellLogs': WHATEVER THE INPUT: true; the input reads as it did. -/
def cellLogsSpec : ChangeSpec := { name := "cellLogs", fn := fun _ => fun
  | [d] => { results := [.lit (.bool true)], args := [d] }
  | _ => none }
def cellLogsRow : OpenClaim := { program := "ytkkldbellngalaa", sum := "e30541a64cb4c1ee329538e862211adbb55e8d41cd33411ecf1aad7f0af4aa4f", func := "braid/braidlaw03.CellLogs", spec := "cellLogs", unfollowed := true, recurses := true, apart := false }
def CellLogsSaid : Prop := cellLogsRow.holds Try.pinned (OpenSpec.ofChange cellLogsSpec)

/-- ITS FALSE NEIGHBOUR: 'it returns false'. Refute it at one input. -/
def cellLogsWrong : ChangeSpec := { name := "cellLogs", fn := fun _ => fun
  | [d] => { results := [.lit (.bool false)], args := [d] }
  | _ => none }
def CellLogsWrongFalsely : Prop := cellLogsRow.holds Try.pinned (OpenSpec.ofChange cellLogsWrong)

/- THE SECOND FORM. 'bulk': how many values and letters a reading holds, each counted each time it is reached (what is shared counts as often as it is met; a slice's spare places count too). A statement '..UptoSaid' is the law's where the arguments, and the package variables that the reading takes, are together of bulk at most 1048576: NARROWER than '..Said'. Prove '..Said' where nothing that the law and all that it calls make is longer than what came in: it says more and counts as full. Else prove '..UptoSaid'. A law counts once. -/
mutual
def uptoBulk {H : Type} : DataW H → Nat
  | .lit (.string bytes) => bytes.length + 1
  | .lit _ => 1
  | .nil => 1
  | .ptr d => uptoBulk d + 1
  | .slice elems spare => uptoBulkAll elems + uptoBulkAll spare + 1
  | .agg parts => uptoBulkAll parts + 1
  | .iface _ d => uptoBulk d + 1
  | .map entries => uptoBulkEntries entries + 1
  | .held _ => 1
def uptoBulkAll {H : Type} : List (DataW H) → Nat
  | [] => 0
  | d :: r => uptoBulk d + uptoBulkAll r
def uptoBulkEntries {H : Type} : List (Lit × DataW H) → Nat
  | [] => 0
  | x :: r => uptoBulkEntry x + uptoBulkEntries r
def uptoBulkEntry {H : Type} : Lit × DataW H → Nat
  | (.string bytes, d) => bytes.length + uptoBulk d + 1
  | (_, d) => uptoBulk d + 1
 end
def uptoSmall : (H : Type) → List (DataW H) → Bool := fun _ ds => decide (uptoBulkAll ds ≤ 1048576)
def OpenSpec.upto (s : _root_.Go.ChangeSpec) : _root_.Go.OpenSpec := { _root_.Go.OpenSpec.ofChange s with cond := some uptoSmall }

/-- 'braidlaw03.CellAll', WHERE WHAT IT READS IS OF BULK AT MOST 1048576: true; the input reads as it did. -/
def cellAllUptoRow : OpenClaim := { program := "ytkkldbellngalaa", sum := "e30541a64cb4c1ee329538e862211adbb55e8d41cd33411ecf1aad7f0af4aa4f", func := "braid/braidlaw03.CellAll", spec := "cellAll", unfollowed := true, recurses := true, apart := false, narrowed := true }
def CellAllUptoSaid : Prop := cellAllUptoRow.holds Try.pinned (OpenSpec.upto cellAllSpec)

/-- 'braidlaw03.CellMakes', WHERE WHAT IT READS IS OF BULK AT MOST 1048576: true; the input reads as it did. -/
def cellMakesUptoRow : OpenClaim := { program := "ytkkldbellngalaa", sum := "e30541a64cb4c1ee329538e862211adbb55e8d41cd33411ecf1aad7f0af4aa4f", func := "braid/braidlaw03.CellMakes", spec := "cellMakes", unfollowed := true, recurses := true, apart := false, narrowed := true }
def CellMakesUptoSaid : Prop := cellMakesUptoRow.holds Try.pinned (OpenSpec.upto cellMakesSpec)

/-- 'braidlaw03.CellSteps', WHERE WHAT IT READS IS OF BULK AT MOST 1048576: true; the input reads as it did. -/
def cellStepsUptoRow : OpenClaim := { program := "ytkkldbellngalaa", sum := "e30541a64cb4c1ee329538e862211adbb55e8d41cd33411ecf1aad7f0af4aa4f", func := "braid/braidlaw03.CellSteps", spec := "cellSteps", unfollowed := true, recurses := true, apart := false, narrowed := true }
def CellStepsUptoSaid : Prop := cellStepsUptoRow.holds Try.pinned (OpenSpec.upto cellStepsSpec)

/-- 'braidlaw03.CellTakes', WHERE WHAT IT READS IS OF BULK AT MOST 1048576: true; the input reads as it did. -/
def cellTakesUptoRow : OpenClaim := { program := "ytkkldbellngalaa", sum := "e30541a64cb4c1ee329538e862211adbb55e8d41cd33411ecf1aad7f0af4aa4f", func := "braid/braidlaw03.CellTakes", spec := "cellTakes", unfollowed := true, recurses := true, apart := false, narrowed := true }
def CellTakesUptoSaid : Prop := cellTakesUptoRow.holds Try.pinned (OpenSpec.upto cellTakesSpec)

/-- 'braidlaw03.CellSees', WHERE WHAT IT READS IS OF BULK AT MOST 1048576: true; the input reads as it did. -/
def cellSeesUptoRow : OpenClaim := { program := "ytkkldbellngalaa", sum := "e30541a64cb4c1ee329538e862211adbb55e8d41cd33411ecf1aad7f0af4aa4f", func := "braid/braidlaw03.CellSees", spec := "cellSees", unfollowed := true, recurses := true, apart := false, narrowed := true }
def CellSeesUptoSaid : Prop := cellSeesUptoRow.holds Try.pinned (OpenSpec.upto cellSeesSpec)

/-- 'braidlaw03.CellLogs', WHERE WHAT IT READS IS OF BULK AT MOST 1048576: true; the input reads as it did. -/
def cellLogsUptoRow : OpenClaim := { program := "ytkkldbellngalaa", sum := "e30541a64cb4c1ee329538e862211adbb55e8d41cd33411ecf1aad7f0af4aa4f", func := "braid/braidlaw03.CellLogs", spec := "cellLogs", unfollowed := true, recurses := true, apart := false, narrowed := true }
def CellLogsUptoSaid : Prop := cellLogsUptoRow.holds Try.pinned (OpenSpec.upto cellLogsSpec)

end Rows
end Go.Proofs.Ytkkldbellngalaa
