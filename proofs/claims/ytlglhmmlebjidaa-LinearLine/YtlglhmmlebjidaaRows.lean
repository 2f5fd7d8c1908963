/-
  No cell of these rows narrows 'for every input' (looked for: loops, veiled, ifaces, maps, wideKeys, modest, calm, conditions, laid).
  DERIVED. THE GIVEN ROWS OF THIS SEAT. 6 by the template 'for every input the law returns true; each argument reads behind the call as it read before'; 0 by the template 'total and deterministic' (their statements: YtlglhmmlebjidaaTotals.lean).
  GIVEN WITH THE SEED: the statements are not yours to turn. If you find one false, say at which input.
  Laid BY PROGRAM, IN A SANDBOX (cutbox-rows.mjs): the forced cells as the released guide's own fill.sh prints them over the translation ff8a116ba4a4da06… (all of the seat's roots in one cut). By AI agents, Wed Nov 11 2026. No macro, syntax, notation, axiom, sorry.
-/
import Derived.Test.YtlglhmmlebjidaaChecked
import GoSem.Claim
import GoSem.ClaimJoined
import GoSem.ClaimMapViews
import Derived.JoinedTies
import Derived.KernelRfl
namespace Go.Proofs.Ytlglhmmlebjidaa
/- THE CELL 'sum', in the pinned program and in every row, IS THE sha256 OF THE DUMP (.gsa) THAT YtlglhmmlebjidaaProg.lean LOADS. Nothing in Lean hashes anything: it is a label: what it is worth is what the hold of that sum in a sandbox is worth. -/
noncomputable def Try.pinned : Pinned := { name := "ytlglhmmlebjidaa", sum := "ff8a116ba4a4da06d7abc7827d3579ab11d2f215c1a257aaeebc016a0479c919", checked := Try.checked }
namespace Rows
def none {H : Type} : Left H := { results := [], args := [] }

/-- 'braidlaw17.LinearNames': WHATEVER THE INPUT: true; the input reads as it did. -/
def linearNamesSpec : ChangeSpec := { name := "linearNames", fn := fun _ => fun
  | [] => { results := [.lit (.bool true)], args := [] }
  | _ => none }
def linearNamesRow : OpenClaim := { program := "ytlglhmmlebjidaa", sum := "ff8a116ba4a4da06d7abc7827d3579ab11d2f215c1a257aaeebc016a0479c919", func := "braid/braidlaw17.LinearNames", spec := "linearNames", inPlace := ["maps.clone"], unfollowed := true, recurses := true, apart := false }
def LinearNamesSaid : Prop := linearNamesRow.holds Try.pinned (OpenSpec.ofChange linearNamesSpec)

/-- ITS FALSE NEIGHBOUR: 'it returns false'. Refute it at one input. -/
def linearNamesWrong : ChangeSpec := { name := "linearNames", fn := fun _ => fun
  | [] => { results := [.lit (.bool false)], args := [] }
  | _ => none }
def LinearNamesWrongFalsely : Prop := linearNamesRow.holds Try.pinned (OpenSpec.ofChange linearNamesWrong)

/-- 'braidlaw17.LinearPointed': WHATEVER THE INPUT: true; the input reads as it did. -/
def linearPointedSpec : ChangeSpec := { name := "linearPointed", fn := fun _ => fun
  | [d] => { results := [.lit (.bool true)], args := [d] }
  | _ => none }
def linearPointedRow : OpenClaim := { program := "ytlglhmmlebjidaa", sum := "ff8a116ba4a4da06d7abc7827d3579ab11d2f215c1a257aaeebc016a0479c919", func := "braid/braidlaw17.LinearPointed", spec := "linearPointed", inPlace := ["maps.clone"], unfollowed := true, recurses := true, apart := false }
def LinearPointedSaid : Prop := linearPointedRow.holds Try.pinned (OpenSpec.ofChange linearPointedSpec)

/-- ITS FALSE NEIGHBOUR: 'it returns false'. Refute it at one input. -/
def linearPointedWrong : ChangeSpec := { name := "linearPointed", fn := fun _ => fun
  | [d] => { results := [.lit (.bool false)], args := [d] }
  | _ => none }
def LinearPointedWrongFalsely : Prop := linearPointedRow.holds Try.pinned (OpenSpec.ofChange linearPointedWrong)

/-- 'braidlaw17.LinearOneByOne': WHATEVER THE INPUT: true; the input reads as it did. -/
def linearOneByOneSpec : ChangeSpec := { name := "linearOneByOne", fn := fun _ => fun
  | [d1, d2, d3] => { results := [.lit (.bool true)], args := [d1, d2, d3] }
  | _ => none }
def linearOneByOneRow : OpenClaim := { program := "ytlglhmmlebjidaa", sum := "ff8a116ba4a4da06d7abc7827d3579ab11d2f215c1a257aaeebc016a0479c919", func := "braid/braidlaw17.LinearOneByOne", spec := "linearOneByOne", inPlace := ["maps.clone"], unfollowed := true, recurses := true, apart := false }
def LinearOneByOneSaid : Prop := linearOneByOneRow.holds Try.pinned (OpenSpec.ofChange linearOneByOneSpec)

/-- ITS FALSE NEIGHBOUR: 'it returns false'. Refute it at one input. -/
def linearOneByOneWrong : ChangeSpec := { name := "linearOneByOne", fn := fun _ => fun
  | [d1, d2, d3] => { results := [.lit (.bool false)], args := [d1, d2, d3] }
  | _ => none }
def LinearOneByOneWrongFalsely : Prop := linearOneByOneRow.holds Try.pinned (OpenSpec.ofChange linearOneByOneWrong)

/-- 'braidlaw17.LinearLine': WHATEVER THE INPUT: true; the input reads as it did. -/
def linearLineSpec : ChangeSpec := { name := "linearLine", fn := fun _ => fun
  | [d1, d2] => { results := [.lit (.bool true)], args := [d1, d2] }
  | _ => none }
def linearLineRow : OpenClaim := { program := "ytlglhmmlebjidaa", sum := "ff8a116ba4a4da06d7abc7827d3579ab11d2f215c1a257aaeebc016a0479c919", func := "braid/braidlaw17.LinearLine", spec := "linearLine", inPlace := ["maps.clone"], unfollowed := true, recurses := true, apart := false }
def LinearLineSaid : Prop := linearLineRow.holds Try.pinned (OpenSpec.ofChange linearLineSpec)

/-- ITS FALSE NEIGHBOUR: 'it returns false'. Refute it at one input. -/
def linearLineWrong : ChangeSpec := { name := "linearLine", fn := fun _ => fun
  | [d1, d2] => { results := [.lit (.bool false)], args := [d1, d2] }
  | _ => none }
def LinearLineWrongFalsely : Prop := linearLineRow.holds Try.pinned (OpenSpec.ofChange linearLineWrong)

/-- 'braidlaw17.LinearPoints': WHATEVER THE INPUT: true; the input reads as it did. -/
def linearPointsSpec : ChangeSpec := { name := "linearPoints", fn := fun _ => fun
  | [d] => { results := [.lit (.bool true)], args := [d] }
  | _ => none }
def linearPointsRow : OpenClaim := { program := "ytlglhmmlebjidaa", sum := "ff8a116ba4a4da06d7abc7827d3579ab11d2f215c1a257aaeebc016a0479c919", func := "braid/braidlaw17.LinearPoints", spec := "linearPoints", inPlace := ["maps.clone"], unfollowed := true, recurses := true, apart := false }
def LinearPointsSaid : Prop := linearPointsRow.holds Try.pinned (OpenSpec.ofChange linearPointsSpec)

/-- ITS FALSE NEIGHBOUR: 'it returns false'. Refute it at one input. -/
def linearPointsWrong : ChangeSpec := { name := "linearPoints", fn := fun _ => fun
  | [d] => { results := [.lit (.bool false)], args := [d] }
  | _ => none }
def LinearPointsWrongFalsely : Prop := linearPointsRow.holds Try.pinned (OpenSpec.ofChange linearPointsWrong)

/-- 'braidlaw17.LinearSearch': WHATEVER THE INPUT: true; the input reads as it did. -/
def linearSearchSpec : ChangeSpec := { name := "linearSearch", fn := fun _ => fun
  | [d] => { results := [.lit (.bool true)], args := [d] }
  | _ => none }
def linearSearchRow : OpenClaim := { program := "ytlglhmmlebjidaa", sum := "ff8a116ba4a4da06d7abc7827d3579ab11d2f215c1a257aaeebc016a0479c919", func := "braid/braidlaw17.LinearSearch", spec := "linearSearch", inPlace := ["maps.clone"], unfollowed := true, recurses := true, apart := false }
def LinearSearchSaid : Prop := linearSearchRow.holds Try.pinned (OpenSpec.ofChange linearSearchSpec)

/-- ITS FALSE NEIGHBOUR: 'it returns false'. Refute it at one input. -/
def linearSearchWrong : ChangeSpec := { name := "linearSearch", fn := fun _ => fun
  | [d] => { results := [.lit (.bool false)], args := [d] }
  | _ => none }
def LinearSearchWrongFalsely : Prop := linearSearchRow.holds Try.pinned (OpenSpec.ofChange linearSearchWrong)

/- THE SECOND FORM. 'bulk': how many values and letters a reading holds, each counted each time it is reached (what is shared counts as often as it is met; a slice's spare places count too). A statement '..UptoSaid' is the law's where the arguments, and the package variables that the reading takes, are together of bulk at most 1048576: NARROWER than '..Said'. Prove '..Said' where nothing that the law and all that it calls make is longer than what came in: it says more and counts as full. Else prove '..UptoSaid'. A law counts once. -/
mutual
def uptoBulk {H : Type} : DataW H → Nat
  | .lit (.string bytes) => bytes.length + 1
  | .lit _ => 1
  | .nil => 1
  | .ptr d => uptoBulk d + 1
  | .slice elems spare => uptoBulkAll elems + uptoBulkAll spare + 1
  | .agg parts => uptoBulkAll parts + 1
  | .iface _ d => uptoBulk d + 1
  | .map entries => uptoBulkEntries entries + 1
  | .held _ => 1
def uptoBulkAll {H : Type} : List (DataW H) → Nat
  | [] => 0
  | d :: r => uptoBulk d + uptoBulkAll r
def uptoBulkEntries {H : Type} : List (Lit × DataW H) → Nat
  | [] => 0
  | x :: r => uptoBulkEntry x + uptoBulkEntries r
def uptoBulkEntry {H : Type} : Lit × DataW H → Nat
  | (.string bytes, d) => bytes.length + uptoBulk d + 1
  | (_, d) => uptoBulk d + 1
 end
def uptoSmall : (H : Type) → List (DataW H) → Bool := fun _ ds => decide (uptoBulkAll ds ≤ 1048576)
def OpenSpec.upto (s : _root_.Go.ChangeSpec) : _root_.Go.OpenSpec := { _root_.Go.OpenSpec.ofChange s with cond := some uptoSmall }

/-- 'braidlaw17.LinearNames', WHERE WHAT IT READS IS OF BULK AT MOST 1048576: true; the input reads as it did. -/
def linearNamesUptoRow : OpenClaim := { program := "ytlglhmmlebjidaa", sum := "ff8a116ba4a4da06d7abc7827d3579ab11d2f215c1a257aaeebc016a0479c919", func := "braid/braidlaw17.LinearNames", spec := "linearNames", inPlace := ["maps.clone"], unfollowed := true, recurses := true, apart := false, narrowed := true }
def LinearNamesUptoSaid : Prop := linearNamesUptoRow.holds Try.pinned (OpenSpec.upto linearNamesSpec)

/-- 'braidlaw17.LinearPointed', WHERE WHAT IT READS IS OF BULK AT MOST 1048576: true; the input reads as it did. -/
def linearPointedUptoRow : OpenClaim := { program := "ytlglhmmlebjidaa", sum := "ff8a116ba4a4da06d7abc7827d3579ab11d2f215c1a257aaeebc016a0479c919", func := "braid/braidlaw17.LinearPointed", spec := "linearPointed", inPlace := ["maps.clone"], unfollowed := true, recurses := true, apart := false, narrowed := true }
def LinearPointedUptoSaid : Prop := linearPointedUptoRow.holds Try.pinned (OpenSpec.upto linearPointedSpec)

/-- 'braidlaw17.LinearOneByOne', WHERE WHAT IT READS IS OF BULK AT MOST 1048576: true; the input reads as it did. -/
def linearOneByOneUptoRow : OpenClaim := { program := "ytlglhmmlebjidaa", sum := "ff8a116ba4a4da06d7abc7827d3579ab11d2f215c1a257aaeebc016a0479c919", func := "braid/braidlaw17.LinearOneByOne", spec := "linearOneByOne", inPlace := ["maps.clone"], unfollowed := true, recurses := true, apart := false, narrowed := true }
def LinearOneByOneUptoSaid : Prop := linearOneByOneUptoRow.holds Try.pinned (OpenSpec.upto linearOneByOneSpec)

/-- 'braidlaw17.LinearLine', WHERE WHAT IT READS IS OF BULK AT MOST 1048576: true; the input reads as it did. -/
def linearLineUptoRow : OpenClaim := { program := "ytlglhmmlebjidaa", sum := "ff8a116ba4a4da06d7abc7827d3579ab11d2f215c1a257aaeebc016a0479c919", func := "braid/braidlaw17.LinearLine", spec := "linearLine", inPlace := ["maps.clone"], unfollowed := true, recurses := true, apart := false, narrowed := true }
def LinearLineUptoSaid : Prop := linearLineUptoRow.holds Try.pinned (OpenSpec.upto linearLineSpec)

/-- 'braidlaw17.LinearPoints', WHERE WHAT IT READS IS OF BULK AT MOST 1048576: true; the input reads as it did. -/
def linearPointsUptoRow : OpenClaim := { program := "ytlglhmmlebjidaa", sum := "ff8a116ba4a4da06d7abc7827d3579ab11d2f215c1a257aaeebc016a0479c919", func := "braid/braidlaw17.LinearPoints", spec := "linearPoints", inPlace := ["maps.clone"], unfollowed := true, recurses := true, apart := false, narrowed := true }
def LinearPointsUptoSaid : Prop := linearPointsUptoRow.holds Try.pinned (OpenSpec.upto linearPointsSpec)

/-- 'braidlaw17.LinearSearch', WHERE WHAT IT READS IS OF BULK AT MOST 1048576: true; the input reads as it did. -/
def linearSearchUptoRow : OpenClaim := { program := "ytlglhmmlebjidaa", sum := "ff8a116ba4a4da06d7abc7827d3579ab11d2f215c1a257aaeebc016a0479c919", func := "braid/braidlaw17.LinearSearch", spec := "linearSearch", inPlace := ["maps.clone"], unfollowed := true, recurses := true, apart := false, narrowed := true }
def LinearSearchUptoSaid : Prop := linearSearchUptoRow.holds Try.pinned (OpenSpec.upto linearSearchSpec)

end Rows
end Go.Proofs.Ytlglhmmlebjidaa
