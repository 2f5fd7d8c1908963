/-
  No cell of these rows narrows 'for every input' (looked for: loops, veiled, ifaces, maps, wideKeys, modest, calm, conditions, laid).
  DERIVED. THE GIVEN ROWS OF THIS SEAT. 4 by the template 'for every input the law returns true; each argument reads behind the call as it read before'; 0 by the template 'total and deterministic' (their statements: YtfbbllokpikbiabTotals.lean).
  GIVEN WITH THE SEED: the statements are not yours to turn. If you find one false, say at which input.
  Laid BY PROGRAM, IN A SANDBOX (cutbox-rows.mjs): the forced cells as the released guide's own fill.sh prints them over the translation b36714bbd2d4036d… (all of the seat's roots in one cut). By AI agents, Wed Nov 11 2026. No macro, syntax, notation, axiom, sorry.
-/
import Derived.Test.YtfbbllokpikbiabChecked
import GoSem.Claim
import GoSem.ClaimJoined
import GoSem.ClaimMapViews
import Derived.JoinedTies
import Derived.KernelRfl
namespace Go.Proofs.Ytfbbllokpikbiab
/- THE CELL 'sum', in the pinned program and in every row, IS THE sha256 OF THE DUMP (.gsa) THAT YtfbbllokpikbiabProg.lean LOADS. Nothing in Lean hashes anything: it is a label: what it is worth is what the hold of that sum in a sandbox is worth. -/
noncomputable def Try.pinned : Pinned := { name := "ytfbbllokpikbiab", sum := "b36714bbd2d4036de3d0b139c49ae6256c9921f1892dd4d1d8600861428218c5", checked := Try.checked }
namespace Rows
def none {H : Type} : Left H := { results := [], args := [] }

/-- 'braidlaw20.GraphRound': WHATEVER THE INPUT: true; the input reads as it did. -/
def graphRoundSpec : ChangeSpec := { name := "graphRound", fn := fun _ => fun
  | [d1, d2, d3] => { results := [.lit (.bool true)], args := [d1, d2, d3] }
  | _ => none }
def graphRoundRow : OpenClaim := { program := "ytfbbllokpikbiab", sum := "b36714bbd2d4036de3d0b139c49ae6256c9921f1892dd4d1d8600861428218c5", func := "braid/braidlaw20.GraphRound", spec := "graphRound", unfollowed := true, recurses := true, apart := false }
def GraphRoundSaid : Prop := graphRoundRow.holds Try.pinned (OpenSpec.ofChange graphRoundSpec)

/-- ITS FALSE NEIGHBOUR: 'it returns false'. Refute it at one input. -/
def graphRoundWrong : ChangeSpec := { name := "graphRound", fn := fun _ => fun
  | [d1, d2, d3] => { results := [.lit (.bool false)], args := [d1, d2, d3] }
  | _ => none }
def GraphRoundWrongFalsely : Prop := graphRoundRow.holds Try.pinned (OpenSpec.ofChange graphRoundWrong)

/-- 'braidlaw20.GraphCycles': WHATEVER THE INPUT: true; the input reads as it did. -/
def graphCyclesSpec : ChangeSpec := { name := "graphCycles", fn := fun _ => fun
  | [d1, d2] => { results := [.lit (.bool true)], args := [d1, d2] }
  | _ => none }
def graphCyclesRow : OpenClaim := { program := "ytfbbllokpikbiab", sum := "b36714bbd2d4036de3d0b139c49ae6256c9921f1892dd4d1d8600861428218c5", func := "braid/braidlaw20.GraphCycles", spec := "graphCycles", unfollowed := true, recurses := true, apart := false }
def GraphCyclesSaid : Prop := graphCyclesRow.holds Try.pinned (OpenSpec.ofChange graphCyclesSpec)

/-- ITS FALSE NEIGHBOUR: 'it returns false'. Refute it at one input. -/
def graphCyclesWrong : ChangeSpec := { name := "graphCycles", fn := fun _ => fun
  | [d1, d2] => { results := [.lit (.bool false)], args := [d1, d2] }
  | _ => none }
def GraphCyclesWrongFalsely : Prop := graphCyclesRow.holds Try.pinned (OpenSpec.ofChange graphCyclesWrong)

/-- 'braidlaw20.GraphTogether': WHATEVER THE INPUT: true; the input reads as it did. -/
def graphTogetherSpec : ChangeSpec := { name := "graphTogether", fn := fun _ => fun
  | [d] => { results := [.lit (.bool true)], args := [d] }
  | _ => none }
def graphTogetherRow : OpenClaim := { program := "ytfbbllokpikbiab", sum := "b36714bbd2d4036de3d0b139c49ae6256c9921f1892dd4d1d8600861428218c5", func := "braid/braidlaw20.GraphTogether", spec := "graphTogether", unfollowed := true, recurses := true, apart := false }
def GraphTogetherSaid : Prop := graphTogetherRow.holds Try.pinned (OpenSpec.ofChange graphTogetherSpec)

/-- ITS FALSE NEIGHBOUR: 'it returns false'. Refute it at one input. -/
def graphTogetherWrong : ChangeSpec := { name := "graphTogether", fn := fun _ => fun
  | [d] => { results := [.lit (.bool false)], args := [d] }
  | _ => none }
def GraphTogetherWrongFalsely : Prop := graphTogetherRow.holds Try.pinned (OpenSpec.ofChange graphTogetherWrong)

/-- 'braidlaw20.GraphSound': WHATEVER THE INPUT: true; the input reads as it did. -/
def graphSoundSpec : ChangeSpec := { name := "graphSound", fn := fun _ => fun
  | [d1, d2] => { results := [.lit (.bool true)], args := [d1, d2] }
  | _ => none }
def graphSoundRow : OpenClaim := { program := "ytfbbllokpikbiab", sum := "b36714bbd2d4036de3d0b139c49ae6256c9921f1892dd4d1d8600861428218c5", func := "braid/braidlaw20.GraphSound", spec := "graphSound", unfollowed := true, recurses := true, apart := false }
def GraphSoundSaid : Prop := graphSoundRow.holds Try.pinned (OpenSpec.ofChange graphSoundSpec)

/-- ITS FALSE NEIGHBOUR: 'it returns false'. Refute it at one input. -/
def graphSoundWrong : ChangeSpec := { name := "graphSound", fn := fun _ => fun
  | [d1, d2] => { results := [.lit (.bool false)], args := [d1, d2] }
  | _ => none }
def GraphSoundWrongFalsely : Prop := graphSoundRow.holds Try.pinned (OpenSpec.ofChange graphSoundWrong)

/- THE SECOND FORM. 'bulk': how many values and letters a reading holds, each counted each time it is reached (what is shared counts as often as it is met; a slice's spare places count too). A statement '..UptoSaid' is the law's where the arguments, and the package variables that the reading takes, are together of bulk at most 1048576: NARROWER than '..Said'. Prove '..Said' where nothing that the law and all that it calls make is longer than what came in: it says more and counts as full. Else prove '..UptoSaid'. A law counts once. -/
mutual
def uptoBulk {H : Type} : DataW H → Nat
  | .lit (.string bytes) => bytes.length + 1
  | .lit _ => 1
  | .nil => 1
  | .ptr d => uptoBulk d + 1
  | .slice elems spare => uptoBulkAll elems + uptoBulkAll spare + 1
  | .agg parts => uptoBulkAll parts + 1
  | .iface _ d => uptoBulk d + 1
  | .map entries => uptoBulkEntries entries + 1
  | .held _ => 1
def uptoBulkAll {H : Type} : List (DataW H) → Nat
  | [] => 0
  | d :: r => uptoBulk d + uptoBulkAll r
def uptoBulkEntries {H : Type} : List (Lit × DataW H) → Nat
  | [] => 0
  | x :: r => uptoBulkEntry x + uptoBulkEntries r
def uptoBulkEntry {H : Type} : Lit × DataW H → Nat
  | (.string bytes, d) => bytes.length + uptoBulk d + 1
  | (_, d) => uptoBulk d + 1
 end
def uptoSmall : (H : Type) → List (DataW H) → Bool := fun _ ds => decide (uptoBulkAll ds ≤ 1048576)
def OpenSpec.upto (s : _root_.Go.ChangeSpec) : _root_.Go.OpenSpec := { _root_.Go.OpenSpec.ofChange s with cond := some uptoSmall }

/-- 'braidlaw20.GraphRound', WHERE WHAT IT READS IS OF BULK AT MOST 1048576: true; the input reads as it did. -/
def graphRoundUptoRow : OpenClaim := { program := "ytfbbllokpikbiab", sum := "b36714bbd2d4036de3d0b139c49ae6256c9921f1892dd4d1d8600861428218c5", func := "braid/braidlaw20.GraphRound", spec := "graphRound", unfollowed := true, recurses := true, apart := false, narrowed := true }
def GraphRoundUptoSaid : Prop := graphRoundUptoRow.holds Try.pinned (OpenSpec.upto graphRoundSpec)

/-- 'braidlaw20.GraphCycles', WHERE WHAT IT READS IS OF BULK AT MOST 1048576: true; the input reads as it did. -/
def graphCyclesUptoRow : OpenClaim := { program := "ytfbbllokpikbiab", sum := "b36714bbd2d4036de3d0b139c49ae6256c9921f1892dd4d1d8600861428218c5", func := "braid/braidlaw20.GraphCycles", spec := "graphCycles", unfollowed := true, recurses := true, apart := false, narrowed := true }
def GraphCyclesUptoSaid : Prop := graphCyclesUptoRow.holds Try.pinned (OpenSpec.upto graphCyclesSpec)

/-- 'braidlaw20.GraphTogether', WHERE WHAT IT READS IS OF BULK AT MOST 1048576: true; the input reads as it did. -/
def graphTogetherUptoRow : OpenClaim := { program := "ytfbbllokpikbiab", sum := "b36714bbd2d4036de3d0b139c49ae6256c9921f1892dd4d1d8600861428218c5", func := "braid/braidlaw20.GraphTogether", spec := "graphTogether", unfollowed := true, recurses := true, apart := false, narrowed := true }
def GraphTogetherUptoSaid : Prop := graphTogetherUptoRow.holds Try.pinned (OpenSpec.upto graphTogetherSpec)

/-- 'braidlaw20.GraphSound', WHERE WHAT IT READS IS OF BULK AT MOST 1048576: true; the input reads as it did. -/
def graphSoundUptoRow : OpenClaim := { program := "ytfbbllokpikbiab", sum := "b36714bbd2d4036de3d0b139c49ae6256c9921f1892dd4d1d8600861428218c5", func := "braid/braidlaw20.GraphSound", spec := "graphSound", unfollowed := true, recurses := true, apart := false, narrowed := true }
def GraphSoundUptoSaid : Prop := graphSoundUptoRow.holds Try.pinned (OpenSpec.upto graphSoundSpec)

end Rows
end Go.Proofs.Ytfbbllokpikbiab
