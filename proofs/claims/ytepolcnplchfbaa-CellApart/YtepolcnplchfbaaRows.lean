/-
  No cell of these rows narrows 'for every input' (looked for: loops, veiled, ifaces, maps, wideKeys, modest, calm, conditions, laid).
  DERIVED. THE GIVEN ROWS OF THIS SEAT. 3 by the template 'for every input the law returns true; each argument reads behind the call as it read before'; 0 by the template 'total and deterministic' (their statements: YtepolcnplchfbaaTotals.lean).
  GIVEN WITH THE SEED: the statements are not yours to turn. If you find one false, say at which input.
  Laid BY PROGRAM, IN A SANDBOX (cutbox-rows.mjs): the forced cells as the released guide's own fill.sh prints them over the translation b568e31e377e09f5… (all of the seat's roots in one cut). By AI agents, Wed Nov 11 2026. No macro, syntax, notation, axiom, sorry.
-/
import Derived.Test.YtepolcnplchfbaaChecked
import GoSem.Claim
import GoSem.ClaimJoined
import GoSem.ClaimMapViews
import Derived.JoinedTies
import Derived.KernelRfl
namespace Go.Proofs.Ytepolcnplchfbaa
/- THE CELL 'sum', in the pinned program and in every row, IS THE sha256 OF THE DUMP (.gsa) THAT YtepolcnplchfbaaProg.lean LOADS. Nothing in Lean hashes anything: it is a label: what it is worth is what the hold of that sum in a sandbox is worth. -/
noncomputable def Try.pinned : Pinned := { name := "ytepolcnplchfbaa", sum := "b568e31e377e09f52aeb0ade09b3d87e6be9988a7ab3471109b4e4b43d145ace", checked := Try.checked }
namespace Rows
def none {H : Type} : Left H := { results := [], args := [] }

/-- 'braidlaw01.WordDraws': WHATEVER THE INPUT: true; the input reads as it did. -/
def wordDrawsSpec : ChangeSpec := { name := "wordDraws", fn := fun _ => fun
  | [d] => { results := [.lit (.bool true)], args := [d] }
  | _ => none }
def wordDrawsRow : OpenClaim := { program := "ytepolcnplchfbaa", sum := "b568e31e377e09f52aeb0ade09b3d87e6be9988a7ab3471109b4e4b43d145ace", func := "braid/braidlaw01.WordDraws", spec := "wordDraws", apart := false }
def WordDrawsSaid : Prop := wordDrawsRow.holds Try.pinned (OpenSpec.ofChange wordDrawsSpec)

/-- ITS FALSE NEIGHBOUR: 'it returns false'. Refute it at one input. -/
def wordDrawsWrong : ChangeSpec := { name := "wordDraws", fn := fun _ => fun
  | [d] => { results := [.lit (.bool false)], args := [d] }
  | _ => none }
def WordDrawsWrongFalsely : Prop := wordDrawsRow.holds Try.pinned (OpenSpec.ofChange wordDrawsWrong)

/-- 'braidlaw03.CellStops': WHATEVER THE INPUT: true; the input reads as it did. -/
def cellStopsSpec : ChangeSpec := { name := "cellStops", fn := fun _ => fun
  | [d1, d2, d3, d4] => { results := [.lit (.bool true)], args := [d1, d2, d3, d4] }
  | _ => none }
def cellStopsRow : OpenClaim := { program := "ytepolcnplchfbaa", sum := "b568e31e377e09f52aeb0ade09b3d87e6be9988a7ab3471109b4e4b43d145ace", func := "braid/braidlaw03.CellStops", spec := "cellStops", unfollowed := true, recurses := true, apart := false }
def CellStopsSaid : Prop := cellStopsRow.holds Try.pinned (OpenSpec.ofChange cellStopsSpec)

/-- ITS FALSE NEIGHBOUR: 'it returns false'. Refute it at one input. -/
def cellStopsWrong : ChangeSpec := { name := "cellStops", fn := fun _ => fun
  | [d1, d2, d3, d4] => { results := [.lit (.bool false)], args := [d1, d2, d3, d4] }
  | _ => none }
def CellStopsWrongFalsely : Prop := cellStopsRow.holds Try.pinned (OpenSpec.ofChange cellStopsWrong)

/-- 'braidlaw03.CellApart': WHATEVER THE INPUT: true; the input reads as it did. -/
def cellApartSpec : ChangeSpec := { name := "cellApart", fn := fun _ => fun
  | [d] => { results := [.lit (.bool true)], args := [d] }
  | _ => none }
def cellApartRow : OpenClaim := { program := "ytepolcnplchfbaa", sum := "b568e31e377e09f52aeb0ade09b3d87e6be9988a7ab3471109b4e4b43d145ace", func := "braid/braidlaw03.CellApart", spec := "cellApart", unfollowed := true, recurses := true, apart := false }
def CellApartSaid : Prop := cellApartRow.holds Try.pinned (OpenSpec.ofChange cellApartSpec)

/-- ITS FALSE NEIGHBOUR: 'it returns false'. Refute it at one input. -/
def cellApartWrong : ChangeSpec := { name := "cellApart", fn := fun _ => fun
  | [d] => { results := [.lit (.bool false)], args := [d] }
  | _ => none }
def CellApartWrongFalsely : Prop := cellApartRow.holds Try.pinned (OpenSpec.ofChange cellApartWrong)

/- THE SECOND FORM. 'bulk': how many values and letters a reading holds, each counted each time it is reached (what is shared counts as often as it is met; a slice's spare places count too). A statement '..UptoSaid' is the law's where the arguments, and the package variables that the reading takes, are together of bulk at most 1048576: NARROWER than '..Said'. Prove '..Said' where nothing that the law and all that it calls make is longer than what came in: it says more and counts as full. Else prove '..UptoSaid'. A law counts once. -/
mutual
def uptoBulk {H : Type} : DataW H → Nat
  | .lit (.string bytes) => bytes.length + 1
  | .lit _ => 1
  | .nil => 1
  | .ptr d => uptoBulk d + 1
  | .slice elems spare => uptoBulkAll elems + uptoBulkAll spare + 1
  | .agg parts => uptoBulkAll parts + 1
  | .iface _ d => uptoBulk d + 1
  | .map entries => uptoBulkEntries entries + 1
  | .held _ => 1
def uptoBulkAll {H : Type} : List (DataW H) → Nat
  | [] => 0
  | d :: r => uptoBulk d + uptoBulkAll r
def uptoBulkEntries {H : Type} : List (Lit × DataW H) → Nat
  | [] => 0
  | x :: r => uptoBulkEntry x + uptoBulkEntries r
def uptoBulkEntry {H : Type} : Lit × DataW H → Nat
  | (.string bytes, d) => bytes.length + uptoBulk d + 1
  | (_, d) => uptoBulk d + 1
 end
def uptoSmall : (H : Type) → List (DataW H) → Bool := fun _ ds => decide (uptoBulkAll ds ≤ 1048576)
def OpenSpec.upto (s : _root_.Go.ChangeSpec) : _root_.Go.OpenSpec := { _root_.Go.OpenSpec.ofChange s with cond := some uptoSmall }

/-- 'braidlaw01.WordDraws', WHERE WHAT IT READS IS OF BULK AT MOST 1048576: true; the input reads as it did. -/
def wordDrawsUptoRow : OpenClaim := { program := "ytepolcnplchfbaa", sum := "b568e31e377e09f52aeb0ade09b3d87e6be9988a7ab3471109b4e4b43d145ace", func := "braid/braidlaw01.WordDraws", spec := "wordDraws", apart := false, narrowed := true }
def WordDrawsUptoSaid : Prop := wordDrawsUptoRow.holds Try.pinned (OpenSpec.upto wordDrawsSpec)

/-- 'braidlaw03.CellStops', WHERE WHAT IT READS IS OF BULK AT MOST 1048576: true; the input reads as it did. -/
def cellStopsUptoRow : OpenClaim := { program := "ytepolcnplchfbaa", sum := "b568e31e377e09f52aeb0ade09b3d87e6be9988a7ab3471109b4e4b43d145ace", func := "braid/braidlaw03.CellStops", spec := "cellStops", unfollowed := true, recurses := true, apart := false, narrowed := true }
def CellStopsUptoSaid : Prop := cellStopsUptoRow.holds Try.pinned (OpenSpec.upto cellStopsSpec)

/-- 'braidlaw03.CellApart', WHERE WHAT IT READS IS OF BULK AT MOST 1048576: true; the input reads as it did. -/
def cellApartUptoRow : OpenClaim := { program := "ytepolcnplchfbaa", sum := "b568e31e377e09f52aeb0ade09b3d87e6be9988a7ab3471109b4e4b43d145ace", func := "braid/braidlaw03.CellApart", spec := "cellApart", unfollowed := true, recurses := true, apart := false, narrowed := true }
def CellApartUptoSaid : Prop := cellApartUptoRow.holds Try.pinned (OpenSpec.upto cellApartSpec)

end Rows
end Go.Proofs.Ytepolcnplchfbaa
