/-
  No cell of these rows narrows 'for every input' (looked for: loops, veiled, ifaces, maps, wideKeys, modest, calm, conditions, laid).
  DERIVED. THE GIVEN ROWS OF THIS SEAT. 6 by the template 'for every input the law returns true; each argument reads behind the call as it read before'; 0 by the template 'total and deterministic' (their statements: YtdldhblhbbgloaaTotals.lean).
  GIVEN WITH THE SEED: the statements are not yours to turn. If you find one false, say at which input.
  Laid BY PROGRAM, IN A SANDBOX (cutbox-rows.mjs): the forced cells as the released guide's own fill.sh prints them over the translation 6f646231bfc14739… (all of the seat's roots in one cut). By AI agents, Wed Nov 11 2026. No macro, syntax, notation, axiom, sorry.
-/
import Derived.Test.YtdldhblhbbgloaaChecked
import GoSem.Claim
import GoSem.ClaimJoined
import GoSem.ClaimMapViews
import Derived.JoinedTies
import Derived.KernelRfl
namespace Go.Proofs.Ytdldhblhbbgloaa
/- THE CELL 'sum', in the pinned program and in every row, IS THE sha256 OF THE DUMP (.gsa) THAT YtdldhblhbbgloaaProg.lean LOADS. Nothing in Lean hashes anything: it is a label: what it is worth is what the hold of that sum in a sandbox is worth. -/
noncomputable def Try.pinned : Pinned := { name := "ytdldhblhbbgloaa", sum := "6f646231bfc147399c762d5c09ab9c2d42bca9dae44b3f140f41a85587d9931d", checked := Try.checked }
namespace Rows
def none {H : Type} : Left H := { results := [], args := [] }

/-- 'braidlaw05.LocatorNames': WHATEVER THE INPUT: true; the input reads as it did. -/
def locatorNamesSpec : ChangeSpec := { name := "locatorNames", fn := fun _ => fun
  | [] => { results := [.lit (.bool true)], args := [] }
  | _ => none }
def locatorNamesRow : OpenClaim := { program := "ytdldhblhbbgloaa", sum := "6f646231bfc147399c762d5c09ab9c2d42bca9dae44b3f140f41a85587d9931d", func := "braid/braidlaw05.LocatorNames", spec := "locatorNames", unfollowed := true, recurses := true, apart := false }
def LocatorNamesSaid : Prop := locatorNamesRow.holds Try.pinned (OpenSpec.ofChange locatorNamesSpec)

/-- ITS FALSE NEIGHBOUR: 'it returns false'. Refute it at one input. -/
def locatorNamesWrong : ChangeSpec := { name := "locatorNames", fn := fun _ => fun
  | [] => { results := [.lit (.bool false)], args := [] }
  | _ => none }
def LocatorNamesWrongFalsely : Prop := locatorNamesRow.holds Try.pinned (OpenSpec.ofChange locatorNamesWrong)

/-- 'braidlaw05.LocatorForEver': WHATEVER THE INPUT: true; the input reads as it did. -/
def locatorForEverSpec : ChangeSpec := { name := "locatorForEver", fn := fun _ => fun
  | [d1, d2] => { results := [.lit (.bool true)], args := [d1, d2] }
  | _ => none }
def locatorForEverRow : OpenClaim := { program := "ytdldhblhbbgloaa", sum := "6f646231bfc147399c762d5c09ab9c2d42bca9dae44b3f140f41a85587d9931d", func := "braid/braidlaw05.LocatorForEver", spec := "locatorForEver", unfollowed := true, recurses := true, apart := false }
def LocatorForEverSaid : Prop := locatorForEverRow.holds Try.pinned (OpenSpec.ofChange locatorForEverSpec)

/-- ITS FALSE NEIGHBOUR: 'it returns false'. Refute it at one input. -/
def locatorForEverWrong : ChangeSpec := { name := "locatorForEver", fn := fun _ => fun
  | [d1, d2] => { results := [.lit (.bool false)], args := [d1, d2] }
  | _ => none }
def LocatorForEverWrongFalsely : Prop := locatorForEverRow.holds Try.pinned (OpenSpec.ofChange locatorForEverWrong)

/-- 'braidlaw05.LocatorApart': WHATEVER THE INPUT: true; the input reads as it did. -/
def locatorApartSpec : ChangeSpec := { name := "locatorApart", fn := fun _ => fun
  | [d1, d2, d3] => { results := [.lit (.bool true)], args := [d1, d2, d3] }
  | _ => none }
def locatorApartRow : OpenClaim := { program := "ytdldhblhbbgloaa", sum := "6f646231bfc147399c762d5c09ab9c2d42bca9dae44b3f140f41a85587d9931d", func := "braid/braidlaw05.LocatorApart", spec := "locatorApart", unfollowed := true, recurses := true, apart := false }
def LocatorApartSaid : Prop := locatorApartRow.holds Try.pinned (OpenSpec.ofChange locatorApartSpec)

/-- ITS FALSE NEIGHBOUR: 'it returns false'. Refute it at one input. -/
def locatorApartWrong : ChangeSpec := { name := "locatorApart", fn := fun _ => fun
  | [d1, d2, d3] => { results := [.lit (.bool false)], args := [d1, d2, d3] }
  | _ => none }
def LocatorApartWrongFalsely : Prop := locatorApartRow.holds Try.pinned (OpenSpec.ofChange locatorApartWrong)

/-- 'braidlaw05.LocatorNone': WHATEVER THE INPUT: true; the input reads as it did. -/
def locatorNoneSpec : ChangeSpec := { name := "locatorNone", fn := fun _ => fun
  | [d1, d2] => { results := [.lit (.bool true)], args := [d1, d2] }
  | _ => none }
def locatorNoneRow : OpenClaim := { program := "ytdldhblhbbgloaa", sum := "6f646231bfc147399c762d5c09ab9c2d42bca9dae44b3f140f41a85587d9931d", func := "braid/braidlaw05.LocatorNone", spec := "locatorNone", unfollowed := true, recurses := true, apart := false }
def LocatorNoneSaid : Prop := locatorNoneRow.holds Try.pinned (OpenSpec.ofChange locatorNoneSpec)

/-- ITS FALSE NEIGHBOUR: 'it returns false'. Refute it at one input. -/
def locatorNoneWrong : ChangeSpec := { name := "locatorNone", fn := fun _ => fun
  | [d1, d2] => { results := [.lit (.bool false)], args := [d1, d2] }
  | _ => none }
def LocatorNoneWrongFalsely : Prop := locatorNoneRow.holds Try.pinned (OpenSpec.ofChange locatorNoneWrong)

/-- 'braidlaw05.LocatorFresh': WHATEVER THE INPUT: true; the input reads as it did. -/
def locatorFreshSpec : ChangeSpec := { name := "locatorFresh", fn := fun _ => fun
  | [d1, d2] => { results := [.lit (.bool true)], args := [d1, d2] }
  | _ => none }
def locatorFreshRow : OpenClaim := { program := "ytdldhblhbbgloaa", sum := "6f646231bfc147399c762d5c09ab9c2d42bca9dae44b3f140f41a85587d9931d", func := "braid/braidlaw05.LocatorFresh", spec := "locatorFresh", unfollowed := true, recurses := true, apart := false }
def LocatorFreshSaid : Prop := locatorFreshRow.holds Try.pinned (OpenSpec.ofChange locatorFreshSpec)

/-- ITS FALSE NEIGHBOUR: 'it returns false'. Refute it at one input. -/
def locatorFreshWrong : ChangeSpec := { name := "locatorFresh", fn := fun _ => fun
  | [d1, d2] => { results := [.lit (.bool false)], args := [d1, d2] }
  | _ => none }
def LocatorFreshWrongFalsely : Prop := locatorFreshRow.holds Try.pinned (OpenSpec.ofChange locatorFreshWrong)

/-- 'braidlaw05.LocatorOneSwap': WHATEVER THE INPUT: true; the input reads as it did. -/
def locatorOneSwapSpec : ChangeSpec := { name := "locatorOneSwap", fn := fun _ => fun
  | [d1, d2] => { results := [.lit (.bool true)], args := [d1, d2] }
  | _ => none }
def locatorOneSwapRow : OpenClaim := { program := "ytdldhblhbbgloaa", sum := "6f646231bfc147399c762d5c09ab9c2d42bca9dae44b3f140f41a85587d9931d", func := "braid/braidlaw05.LocatorOneSwap", spec := "locatorOneSwap", unfollowed := true, recurses := true, apart := false }
def LocatorOneSwapSaid : Prop := locatorOneSwapRow.holds Try.pinned (OpenSpec.ofChange locatorOneSwapSpec)

/-- ITS FALSE NEIGHBOUR: 'it returns false'. Refute it at one input. -/
def locatorOneSwapWrong : ChangeSpec := { name := "locatorOneSwap", fn := fun _ => fun
  | [d1, d2] => { results := [.lit (.bool false)], args := [d1, d2] }
  | _ => none }
def LocatorOneSwapWrongFalsely : Prop := locatorOneSwapRow.holds Try.pinned (OpenSpec.ofChange locatorOneSwapWrong)

/- THE SECOND FORM. 'bulk': how many values and letters a reading holds, each counted each time it is reached (what is shared counts as often as it is met; a slice's spare places count too). A statement '..UptoSaid' is the law's where the arguments, and the package variables that the reading takes, are together of bulk at most 1048576: NARROWER than '..Said'. Prove '..Said' where nothing that the law and all that it calls make is longer than what came in: it says more and counts as full. Else prove '..UptoSaid'. A law counts once. -/
mutual
def uptoBulk {H : Type} : DataW H → Nat
  | .lit (.string bytes) => bytes.length + 1
  | .lit _ => 1
  | .nil => 1
  | .ptr d => uptoBulk d + 1
  | .slice elems spare => uptoBulkAll elems + uptoBulkAll spare + 1
  | .agg parts => uptoBulkAll parts + 1
  | .iface _ d => uptoBulk d + 1
  | .map entries => uptoBulkEntries entries + 1
  | .held _ => 1
def uptoBulkAll {H : Type} : List (DataW H) → Nat
  | [] => 0
  | d :: r => uptoBulk d + uptoBulkAll r
def uptoBulkEntries {H : Type} : List (Lit × DataW H) → Nat
  | [] => 0
  | x :: r => uptoBulkEntry x + uptoBulkEntries r
def uptoBulkEntry {H : Type} : Lit × DataW H → Nat
  | (.string bytes, d) => bytes.length + uptoBulk d + 1
  | (_, d) => uptoBulk d + 1
 end
def uptoSmall : (H : Type) → List (DataW H) → Bool := fun _ ds => decide (uptoBulkAll ds ≤ 1048576)
def OpenSpec.upto (s : _root_.Go.ChangeSpec) : _root_.Go.OpenSpec := { _root_.Go.OpenSpec.ofChange s with cond := some uptoSmall }

/-- 'braidlaw05.LocatorNames', WHERE WHAT IT READS IS OF BULK AT MOST 1048576: true; the input reads as it did. -/
def locatorNamesUptoRow : OpenClaim := { program := "ytdldhblhbbgloaa", sum := "6f646231bfc147399c762d5c09ab9c2d42bca9dae44b3f140f41a85587d9931d", func := "braid/braidlaw05.LocatorNames", spec := "locatorNames", unfollowed := true, recurses := true, apart := false, narrowed := true }
def LocatorNamesUptoSaid : Prop := locatorNamesUptoRow.holds Try.pinned (OpenSpec.upto locatorNamesSpec)

/-- 'braidlaw05.LocatorForEver', WHERE WHAT IT READS IS OF BULK AT MOST 1048576: true; the input reads as it did. -/
def locatorForEverUptoRow : OpenClaim := { program := "ytdldhblhbbgloaa", sum := "6f646231bfc147399c762d5c09ab9c2d42bca9dae44b3f140f41a85587d9931d", func := "braid/braidlaw05.LocatorForEver", spec := "locatorForEver", unfollowed := true, recurses := true, apart := false, narrowed := true }
def LocatorForEverUptoSaid : Prop := locatorForEverUptoRow.holds Try.pinned (OpenSpec.upto locatorForEverSpec)

/-- 'braidlaw05.LocatorApart', WHERE WHAT IT READS IS OF BULK AT MOST 1048576: true; the input reads as it did. -/
def locatorApartUptoRow : OpenClaim := { program := "ytdldhblhbbgloaa", sum := "6f646231bfc147399c762d5c09ab9c2d42bca9dae44b3f140f41a85587d9931d", func := "braid/braidlaw05.LocatorApart", spec := "locatorApart", unfollowed := true, recurses := true, apart := false, narrowed := true }
def LocatorApartUptoSaid : Prop := locatorApartUptoRow.holds Try.pinned (OpenSpec.upto locatorApartSpec)

/-- 'braidlaw05.LocatorNone', WHERE WHAT IT READS IS OF BULK AT MOST 1048576: true; the input reads as it did. -/
def locatorNoneUptoRow : OpenClaim := { program := "ytdldhblhbbgloaa", sum := "6f646231bfc147399c762d5c09ab9c2d42bca9dae44b3f140f41a85587d9931d", func := "braid/braidlaw05.LocatorNone", spec := "locatorNone", unfollowed := true, recurses := true, apart := false, narrowed := true }
def LocatorNoneUptoSaid : Prop := locatorNoneUptoRow.holds Try.pinned (OpenSpec.upto locatorNoneSpec)

/-- 'braidlaw05.LocatorFresh', WHERE WHAT IT READS IS OF BULK AT MOST 1048576: true; the input reads as it did. -/
def locatorFreshUptoRow : OpenClaim := { program := "ytdldhblhbbgloaa", sum := "6f646231bfc147399c762d5c09ab9c2d42bca9dae44b3f140f41a85587d9931d", func := "braid/braidlaw05.LocatorFresh", spec := "locatorFresh", unfollowed := true, recurses := true, apart := false, narrowed := true }
def LocatorFreshUptoSaid : Prop := locatorFreshUptoRow.holds Try.pinned (OpenSpec.upto locatorFreshSpec)

/-- 'braidlaw05.LocatorOneSwap', WHERE WHAT IT READS IS OF BULK AT MOST 1048576: true; the input reads as it did. -/
def locatorOneSwapUptoRow : OpenClaim := { program := "ytdldhblhbbgloaa", sum := "6f646231bfc147399c762d5c09ab9c2d42bca9dae44b3f140f41a85587d9931d", func := "braid/braidlaw05.LocatorOneSwap", spec := "locatorOneSwap", unfollowed := true, recurses := true, apart := false, narrowed := true }
def LocatorOneSwapUptoSaid : Prop := locatorOneSwapUptoRow.holds Try.pinned (OpenSpec.upto locatorOneSwapSpec)

end Rows
end Go.Proofs.Ytdldhblhbbgloaa
