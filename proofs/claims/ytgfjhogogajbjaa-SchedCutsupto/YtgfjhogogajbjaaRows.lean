/-
  No cell of these rows narrows 'for every input' (looked for: loops, veiled, ifaces, maps, wideKeys, modest, calm, conditions, laid).
  DERIVED. THE GIVEN ROWS OF THIS SEAT. 6 by the template 'for every input the law returns true; each argument reads behind the call as it read before'; 0 by the template 'total and deterministic' (their statements: YtgfjhogogajbjaaTotals.lean).
  GIVEN WITH THE SEED: the statements are not yours to turn. If you find one false, say at which input.
  Laid BY PROGRAM, IN A SANDBOX (cutbox-rows.mjs): the forced cells as the released guide's own fill.sh prints them over the translation f19cce1f56d85923… (all of the seat's roots in one cut). By AI agents, Wed Nov 11 2026. No macro, syntax, notation, axiom, sorry.
-/
import Derived.Test.YtgfjhogogajbjaaChecked
import GoSem.Claim
import GoSem.ClaimJoined
import GoSem.ClaimMapViews
import Derived.JoinedTies
import Derived.KernelRfl
namespace Go.Proofs.Ytgfjhogogajbjaa
/- THE CELL 'sum', in the pinned program and in every row, IS THE sha256 OF THE DUMP (.gsa) THAT YtgfjhogogajbjaaProg.lean LOADS. Nothing in Lean hashes anything: it is a label: what it is worth is what the hold of that sum in a sandbox is worth. -/
noncomputable def Try.pinned : Pinned := { name := "ytgfjhogogajbjaa", sum := "f19cce1f56d85923e2cbe17dd17a0e1b3f704c6ad752fc73bf3bb0913cf7baf5", checked := Try.checked }
namespace Rows
def none {H : Type} : Left H := { results := [], args := [] }

/-- 'braidlaw04.SchedNames': WHATEVER THE INPUT: true; the input reads as it did. -/
def schedNamesSpec : ChangeSpec := { name := "schedNames", fn := fun _ => fun
  | [] => { results := [.lit (.bool true)], args := [] }
  | _ => none }
def schedNamesRow : OpenClaim := { program := "ytgfjhogogajbjaa", sum := "f19cce1f56d85923e2cbe17dd17a0e1b3f704c6ad752fc73bf3bb0913cf7baf5", func := "braid/braidlaw04.SchedNames", spec := "schedNames", unfollowed := true, recurses := true, apart := false }
def SchedNamesSaid : Prop := schedNamesRow.holds Try.pinned (OpenSpec.ofChange schedNamesSpec)

/-- ITS FALSE NEIGHBOUR: 'it returns false'. Refute it at one input. -/
def schedNamesWrong : ChangeSpec := { name := "schedNames", fn := fun _ => fun
  | [] => { results := [.lit (.bool false)], args := [] }
  | _ => none }
def SchedNamesWrongFalsely : Prop := schedNamesRow.holds Try.pinned (OpenSpec.ofChange schedNamesWrong)

/-- 'braidlaw04.SchedRobin': WHATEVER THE INPUT: true; the input reads as it did. -/
def schedRobinSpec : ChangeSpec := { name := "schedRobin", fn := fun _ => fun
  | [d1, d2] => { results := [.lit (.bool true)], args := [d1, d2] }
  | _ => none }
def schedRobinRow : OpenClaim := { program := "ytgfjhogogajbjaa", sum := "f19cce1f56d85923e2cbe17dd17a0e1b3f704c6ad752fc73bf3bb0913cf7baf5", func := "braid/braidlaw04.SchedRobin", spec := "schedRobin", unfollowed := true, recurses := true, apart := false }
def SchedRobinSaid : Prop := schedRobinRow.holds Try.pinned (OpenSpec.ofChange schedRobinSpec)

/-- ITS FALSE NEIGHBOUR: 'it returns false'. Refute it at one input. -/
def schedRobinWrong : ChangeSpec := { name := "schedRobin", fn := fun _ => fun
  | [d1, d2] => { results := [.lit (.bool false)], args := [d1, d2] }
  | _ => none }
def SchedRobinWrongFalsely : Prop := schedRobinRow.holds Try.pinned (OpenSpec.ofChange schedRobinWrong)

/-- 'braidlaw04.SchedJoined': WHATEVER THE INPUT: true; the input reads as it did. -/
def schedJoinedSpec : ChangeSpec := { name := "schedJoined", fn := fun _ => fun
  | [d1, d2, d3] => { results := [.lit (.bool true)], args := [d1, d2, d3] }
  | _ => none }
def schedJoinedRow : OpenClaim := { program := "ytgfjhogogajbjaa", sum := "f19cce1f56d85923e2cbe17dd17a0e1b3f704c6ad752fc73bf3bb0913cf7baf5", func := "braid/braidlaw04.SchedJoined", spec := "schedJoined", unfollowed := true, recurses := true, apart := false }
def SchedJoinedSaid : Prop := schedJoinedRow.holds Try.pinned (OpenSpec.ofChange schedJoinedSpec)

/-- ITS FALSE NEIGHBOUR: 'it returns false'. Refute it at one input. -/
def schedJoinedWrong : ChangeSpec := { name := "schedJoined", fn := fun _ => fun
  | [d1, d2, d3] => { results := [.lit (.bool false)], args := [d1, d2, d3] }
  | _ => none }
def SchedJoinedWrongFalsely : Prop := schedJoinedRow.holds Try.pinned (OpenSpec.ofChange schedJoinedWrong)

/-- 'braidlaw04.SchedCuts': WHATEVER THE INPUT: true; the input reads as it did. -/
def schedCutsSpec : ChangeSpec := { name := "schedCuts", fn := fun _ => fun
  | [d1, d2, d3] => { results := [.lit (.bool true)], args := [d1, d2, d3] }
  | _ => none }
def schedCutsRow : OpenClaim := { program := "ytgfjhogogajbjaa", sum := "f19cce1f56d85923e2cbe17dd17a0e1b3f704c6ad752fc73bf3bb0913cf7baf5", func := "braid/braidlaw04.SchedCuts", spec := "schedCuts", unfollowed := true, recurses := true, apart := false }
def SchedCutsSaid : Prop := schedCutsRow.holds Try.pinned (OpenSpec.ofChange schedCutsSpec)

/-- ITS FALSE NEIGHBOUR: 'it returns false'. Refute it at one input. -/
def schedCutsWrong : ChangeSpec := { name := "schedCuts", fn := fun _ => fun
  | [d1, d2, d3] => { results := [.lit (.bool false)], args := [d1, d2, d3] }
  | _ => none }
def SchedCutsWrongFalsely : Prop := schedCutsRow.holds Try.pinned (OpenSpec.ofChange schedCutsWrong)

/-- 'braidlaw04.SchedWhole': WHATEVER THE INPUT: true; the input reads as it did. -/
def schedWholeSpec : ChangeSpec := { name := "schedWhole", fn := fun _ => fun
  | [d1, d2] => { results := [.lit (.bool true)], args := [d1, d2] }
  | _ => none }
def schedWholeRow : OpenClaim := { program := "ytgfjhogogajbjaa", sum := "f19cce1f56d85923e2cbe17dd17a0e1b3f704c6ad752fc73bf3bb0913cf7baf5", func := "braid/braidlaw04.SchedWhole", spec := "schedWhole", unfollowed := true, recurses := true, apart := false }
def SchedWholeSaid : Prop := schedWholeRow.holds Try.pinned (OpenSpec.ofChange schedWholeSpec)

/-- ITS FALSE NEIGHBOUR: 'it returns false'. Refute it at one input. -/
def schedWholeWrong : ChangeSpec := { name := "schedWhole", fn := fun _ => fun
  | [d1, d2] => { results := [.lit (.bool false)], args := [d1, d2] }
  | _ => none }
def SchedWholeWrongFalsely : Prop := schedWholeRow.holds Try.pinned (OpenSpec.ofChange schedWholeWrong)

/-- 'braidlaw04.SchedWindow': WHATEVER THE INPUT: true; the input reads as it did. -/
def schedWindowSpec : ChangeSpec := { name := "schedWindow", fn := fun _ => fun
  | [d] => { results := [.lit (.bool true)], args := [d] }
  | _ => none }
def schedWindowRow : OpenClaim := { program := "ytgfjhogogajbjaa", sum := "f19cce1f56d85923e2cbe17dd17a0e1b3f704c6ad752fc73bf3bb0913cf7baf5", func := "braid/braidlaw04.SchedWindow", spec := "schedWindow", unfollowed := true, recurses := true, apart := false }
def SchedWindowSaid : Prop := schedWindowRow.holds Try.pinned (OpenSpec.ofChange schedWindowSpec)

/-- ITS FALSE NEIGHBOUR: 'it returns false'. Refute it at one input. -/
def schedWindowWrong : ChangeSpec := { name := "schedWindow", fn := fun _ => fun
  | [d] => { results := [.lit (.bool false)], args := [d] }
  | _ => none }
def SchedWindowWrongFalsely : Prop := schedWindowRow.holds Try.pinned (OpenSpec.ofChange schedWindowWrong)

/- THE SECOND FORM. 'bulk': how many values and letters a reading holds, each counted each time it is reached (what is shared counts as often as it is met; a slice's spare places count too). A statement '..UptoSaid' is the law's where the arguments, and the package variables that the reading takes, are together of bulk at most 1048576: NARROWER than '..Said'. Prove '..Said' where nothing that the law and all that it calls make is longer than what came in: it says more and counts as full. Else prove '..UptoSaid'. A law counts once. -/
mutual
def uptoBulk {H : Type} : DataW H → Nat
  | .lit (.string bytes) => bytes.length + 1
  | .lit _ => 1
  | .nil => 1
  | .ptr d => uptoBulk d + 1
  | .slice elems spare => uptoBulkAll elems + uptoBulkAll spare + 1
  | .agg parts => uptoBulkAll parts + 1
  | .iface _ d => uptoBulk d + 1
  | .map entries => uptoBulkEntries entries + 1
  | .held _ => 1
def uptoBulkAll {H : Type} : List (DataW H) → Nat
  | [] => 0
  | d :: r => uptoBulk d + uptoBulkAll r
def uptoBulkEntries {H : Type} : List (Lit × DataW H) → Nat
  | [] => 0
  | x :: r => uptoBulkEntry x + uptoBulkEntries r
def uptoBulkEntry {H : Type} : Lit × DataW H → Nat
  | (.string bytes, d) => bytes.length + uptoBulk d + 1
  | (_, d) => uptoBulk d + 1
 end
def uptoSmall : (H : Type) → List (DataW H) → Bool := fun _ ds => decide (uptoBulkAll ds ≤ 1048576)
def OpenSpec.upto (s : _root_.Go.ChangeSpec) : _root_.Go.OpenSpec := { _root_.Go.OpenSpec.ofChange s with cond := some uptoSmall }

/-- 'braidlaw04.SchedNames', WHERE WHAT IT READS IS OF BULK AT MOST 1048576: true; the input reads as it did. -/
def schedNamesUptoRow : OpenClaim := { program := "ytgfjhogogajbjaa", sum := "f19cce1f56d85923e2cbe17dd17a0e1b3f704c6ad752fc73bf3bb0913cf7baf5", func := "braid/braidlaw04.SchedNames", spec := "schedNames", unfollowed := true, recurses := true, apart := false, narrowed := true }
def SchedNamesUptoSaid : Prop := schedNamesUptoRow.holds Try.pinned (OpenSpec.upto schedNamesSpec)

/-- 'braidlaw04.SchedRobin', WHERE WHAT IT READS IS OF BULK AT MOST 1048576: true; the input reads as it did. -/
def schedRobinUptoRow : OpenClaim := { program := "ytgfjhogogajbjaa", sum := "f19cce1f56d85923e2cbe17dd17a0e1b3f704c6ad752fc73bf3bb0913cf7baf5", func := "braid/braidlaw04.SchedRobin", spec := "schedRobin", unfollowed := true, recurses := true, apart := false, narrowed := true }
def SchedRobinUptoSaid : Prop := schedRobinUptoRow.holds Try.pinned (OpenSpec.upto schedRobinSpec)

/-- 'braidlaw04.SchedJoined', WHERE WHAT IT READS IS OF BULK AT MOST 1048576: true; the input reads as it did. -/
def schedJoinedUptoRow : OpenClaim := { program := "ytgfjhogogajbjaa", sum := "f19cce1f56d85923e2cbe17dd17a0e1b3f704c6ad752fc73bf3bb0913cf7baf5", func := "braid/braidlaw04.SchedJoined", spec := "schedJoined", unfollowed := true, recurses := true, apart := false, narrowed := true }
def SchedJoinedUptoSaid : Prop := schedJoinedUptoRow.holds Try.pinned (OpenSpec.upto schedJoinedSpec)

/-- 'braidlaw04.SchedCuts', WHERE WHAT IT READS IS OF BULK AT MOST 1048576: true; the input reads as it did. -/
def schedCutsUptoRow : OpenClaim := { program := "ytgfjhogogajbjaa", sum := "f19cce1f56d85923e2cbe17dd17a0e1b3f704c6ad752fc73bf3bb0913cf7baf5", func := "braid/braidlaw04.SchedCuts", spec := "schedCuts", unfollowed := true, recurses := true, apart := false, narrowed := true }
def SchedCutsUptoSaid : Prop := schedCutsUptoRow.holds Try.pinned (OpenSpec.upto schedCutsSpec)

/-- 'braidlaw04.SchedWhole', WHERE WHAT IT READS IS OF BULK AT MOST 1048576: true; the input reads as it did. -/
def schedWholeUptoRow : OpenClaim := { program := "ytgfjhogogajbjaa", sum := "f19cce1f56d85923e2cbe17dd17a0e1b3f704c6ad752fc73bf3bb0913cf7baf5", func := "braid/braidlaw04.SchedWhole", spec := "schedWhole", unfollowed := true, recurses := true, apart := false, narrowed := true }
def SchedWholeUptoSaid : Prop := schedWholeUptoRow.holds Try.pinned (OpenSpec.upto schedWholeSpec)

/-- 'braidlaw04.SchedWindow', WHERE WHAT IT READS IS OF BULK AT MOST 1048576: true; the input reads as it did. -/
def schedWindowUptoRow : OpenClaim := { program := "ytgfjhogogajbjaa", sum := "f19cce1f56d85923e2cbe17dd17a0e1b3f704c6ad752fc73bf3bb0913cf7baf5", func := "braid/braidlaw04.SchedWindow", spec := "schedWindow", unfollowed := true, recurses := true, apart := false, narrowed := true }
def SchedWindowUptoSaid : Prop := schedWindowUptoRow.holds Try.pinned (OpenSpec.upto schedWindowSpec)

end Rows
end Go.Proofs.Ytgfjhogogajbjaa
