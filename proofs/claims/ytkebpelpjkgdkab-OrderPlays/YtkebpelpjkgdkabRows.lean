/-
  No cell of these rows narrows 'for every input' (looked for: loops, veiled, ifaces, maps, wideKeys, modest, calm, conditions, laid).
  DERIVED. THE GIVEN ROWS OF THIS SEAT. 4 by the template 'for every input the law returns true; each argument reads behind the call as it read before'; 0 by the template 'total and deterministic' (their statements: YtkebpelpjkgdkabTotals.lean).
  GIVEN WITH THE SEED: the statements are not yours to turn. If you find one false, say at which input.
  Laid BY PROGRAM, IN A SANDBOX (cutbox-rows.mjs): the forced cells as the released guide's own fill.sh prints them over the translation 07e29da3e09bb473… (all of the seat's roots in one cut). By AI agents, Wed Nov 11 2026. No macro, syntax, notation, axiom, sorry.
-/
import Derived.Test.YtkebpelpjkgdkabChecked
import GoSem.Claim
import GoSem.ClaimJoined
import GoSem.ClaimMapViews
import Derived.JoinedTies
import Derived.KernelRfl
namespace Go.Proofs.Ytkebpelpjkgdkab
/- THE CELL 'sum', in the pinned program and in every row, IS THE sha256 OF THE DUMP (.gsa) THAT YtkebpelpjkgdkabProg.lean LOADS. Nothing in Lean hashes anything: it is a label: what it is worth is what the hold of that sum in a sandbox is worth. -/
noncomputable def Try.pinned : Pinned := { name := "ytkebpelpjkgdkab", sum := "07e29da3e09bb4732370a30d7ba66ff38eca936a1d12cc22e3c3fec68dcec805", checked := Try.checked }
namespace Rows
def none {H : Type} : Left H := { results := [], args := [] }

/-- 'braidlaw02.OrderChanges': WHATEVER THE INPUT: true; the input reads as it did. -/
def orderChangesSpec : ChangeSpec := { name := "orderChanges", fn := fun _ => fun
  | [d1, d2, d3] => { results := [.lit (.bool true)], args := [d1, d2, d3] }
  | _ => none }
def orderChangesRow : OpenClaim := { program := "ytkebpelpjkgdkab", sum := "07e29da3e09bb4732370a30d7ba66ff38eca936a1d12cc22e3c3fec68dcec805", func := "braid/braidlaw02.OrderChanges", spec := "orderChanges", unfollowed := true, recurses := true, apart := false }
def OrderChangesSaid : Prop := orderChangesRow.holds Try.pinned (OpenSpec.ofChange orderChangesSpec)

/-- ITS FALSE NEIGHBOUR: 'it returns false'. Refute it at one input. -/
def orderChangesWrong : ChangeSpec := { name := "orderChanges", fn := fun _ => fun
  | [d1, d2, d3] => { results := [.lit (.bool false)], args := [d1, d2, d3] }
  | _ => none }
def OrderChangesWrongFalsely : Prop := orderChangesRow.holds Try.pinned (OpenSpec.ofChange orderChangesWrong)

/-- 'braidlaw02.OrderNotHow': WHATEVER THE INPUT: true; the input reads as it did. -/
def orderNotHowSpec : ChangeSpec := { name := "orderNotHow", fn := fun _ => fun
  | [d] => { results := [.lit (.bool true)], args := [d] }
  | _ => none }
def orderNotHowRow : OpenClaim := { program := "ytkebpelpjkgdkab", sum := "07e29da3e09bb4732370a30d7ba66ff38eca936a1d12cc22e3c3fec68dcec805", func := "braid/braidlaw02.OrderNotHow", spec := "orderNotHow", unfollowed := true, recurses := true, apart := false }
def OrderNotHowSaid : Prop := orderNotHowRow.holds Try.pinned (OpenSpec.ofChange orderNotHowSpec)

/-- ITS FALSE NEIGHBOUR: 'it returns false'. Refute it at one input. -/
def orderNotHowWrong : ChangeSpec := { name := "orderNotHow", fn := fun _ => fun
  | [d] => { results := [.lit (.bool false)], args := [d] }
  | _ => none }
def OrderNotHowWrongFalsely : Prop := orderNotHowRow.holds Try.pinned (OpenSpec.ofChange orderNotHowWrong)

/-- 'braidlaw02.OrderOwn': WHATEVER THE INPUT: true; the input reads as it did. -/
def orderOwnSpec : ChangeSpec := { name := "orderOwn", fn := fun _ => fun
  | [d1, d2] => { results := [.lit (.bool true)], args := [d1, d2] }
  | _ => none }
def orderOwnRow : OpenClaim := { program := "ytkebpelpjkgdkab", sum := "07e29da3e09bb4732370a30d7ba66ff38eca936a1d12cc22e3c3fec68dcec805", func := "braid/braidlaw02.OrderOwn", spec := "orderOwn", unfollowed := true, recurses := true, apart := false }
def OrderOwnSaid : Prop := orderOwnRow.holds Try.pinned (OpenSpec.ofChange orderOwnSpec)

/-- ITS FALSE NEIGHBOUR: 'it returns false'. Refute it at one input. -/
def orderOwnWrong : ChangeSpec := { name := "orderOwn", fn := fun _ => fun
  | [d1, d2] => { results := [.lit (.bool false)], args := [d1, d2] }
  | _ => none }
def OrderOwnWrongFalsely : Prop := orderOwnRow.holds Try.pinned (OpenSpec.ofChange orderOwnWrong)

/-- 'braidlaw02.OrderPlays': WHATEVER THE INPUT: true; the input reads as it did. -/
def orderPlaysSpec : ChangeSpec := { name := "orderPlays", fn := fun _ => fun
  | [d] => { results := [.lit (.bool true)], args := [d] }
  | _ => none }
def orderPlaysRow : OpenClaim := { program := "ytkebpelpjkgdkab", sum := "07e29da3e09bb4732370a30d7ba66ff38eca936a1d12cc22e3c3fec68dcec805", func := "braid/braidlaw02.OrderPlays", spec := "orderPlays", unfollowed := true, recurses := true, apart := false }
def OrderPlaysSaid : Prop := orderPlaysRow.holds Try.pinned (OpenSpec.ofChange orderPlaysSpec)

/-- ITS FALSE NEIGHBOUR: 'it returns false'. Refute it at one input. -/
def orderPlaysWrong : ChangeSpec := { name := "orderPlays", fn := fun _ => fun
  | [d] => { results := [.lit (.bool false)], args := [d] }
  | _ => none }
def OrderPlaysWrongFalsely : Prop := orderPlaysRow.holds Try.pinned (OpenSpec.ofChange orderPlaysWrong)

/- THE SECOND FORM. 'bulk': how many values and letters a reading holds, each counted each time it is reached (what is shared counts as often as it is met; a slice's spare places count too). A statement '..UptoSaid' is the law's where the arguments, and the package variables that the reading takes, are together of bulk at most 1048576: NARROWER than '..Said'. Prove '..Said' where nothing that the law and all that it calls make is longer than what came in: it says more and counts as full. Else prove '..UptoSaid'. A law counts once. -/
mutual
def uptoBulk {H : Type} : DataW H → Nat
  | .lit (.string bytes) => bytes.length + 1
  | .lit _ => 1
  | .nil => 1
  | .ptr d => uptoBulk d + 1
  | .slice elems spare => uptoBulkAll elems + uptoBulkAll spare + 1
  | .agg parts => uptoBulkAll parts + 1
  | .iface _ d => uptoBulk d + 1
  | .map entries => uptoBulkEntries entries + 1
  | .held _ => 1
def uptoBulkAll {H : Type} : List (DataW H) → Nat
  | [] => 0
  | d :: r => uptoBulk d + uptoBulkAll r
def uptoBulkEntries {H : Type} : List (Lit × DataW H) → Nat
  | [] => 0
  | x :: r => uptoBulkEntry x + uptoBulkEntries r
def uptoBulkEntry {H : Type} : Lit × DataW H → Nat
  | (.string bytes, d) => bytes.length + uptoBulk d + 1
  | (_, d) => uptoBulk d + 1
 end
def uptoSmall : (H : Type) → List (DataW H) → Bool := fun _ ds => decide (uptoBulkAll ds ≤ 1048576)
def OpenSpec.upto (s : _root_.Go.ChangeSpec) : _root_.Go.OpenSpec := { _root_.Go.OpenSpec.ofChange s with cond := some uptoSmall }

/-- 'braidlaw02.OrderChanges', WHERE WHAT IT READS IS OF BULK AT MOST 1048576: true; the input reads as it did. -/
def orderChangesUptoRow : OpenClaim := { program := "ytkebpelpjkgdkab", sum := "07e29da3e09bb4732370a30d7ba66ff38eca936a1d12cc22e3c3fec68dcec805", func := "braid/braidlaw02.OrderChanges", spec := "orderChanges", unfollowed := true, recurses := true, apart := false, narrowed := true }
def OrderChangesUptoSaid : Prop := orderChangesUptoRow.holds Try.pinned (OpenSpec.upto orderChangesSpec)

/-- 'braidlaw02.OrderNotHow', WHERE WHAT IT READS IS OF BULK AT MOST 1048576: true; the input reads as it did. -/
def orderNotHowUptoRow : OpenClaim := { program := "ytkebpelpjkgdkab", sum := "07e29da3e09bb4732370a30d7ba66ff38eca936a1d12cc22e3c3fec68dcec805", func := "braid/braidlaw02.OrderNotHow", spec := "orderNotHow", unfollowed := true, recurses := true, apart := false, narrowed := true }
def OrderNotHowUptoSaid : Prop := orderNotHowUptoRow.holds Try.pinned (OpenSpec.upto orderNotHowSpec)

/-- 'braidlaw02.OrderOwn', WHERE WHAT IT READS IS OF BULK AT MOST 1048576: true; the input reads as it did. -/
def orderOwnUptoRow : OpenClaim := { program := "ytkebpelpjkgdkab", sum := "07e29da3e09bb4732370a30d7ba66ff38eca936a1d12cc22e3c3fec68dcec805", func := "braid/braidlaw02.OrderOwn", spec := "orderOwn", unfollowed := true, recurses := true, apart := false, narrowed := true }
def OrderOwnUptoSaid : Prop := orderOwnUptoRow.holds Try.pinned (OpenSpec.upto orderOwnSpec)

/-- 'braidlaw02.OrderPlays', WHERE WHAT IT READS IS OF BULK AT MOST 1048576: true; the input reads as it did. -/
def orderPlaysUptoRow : OpenClaim := { program := "ytkebpelpjkgdkab", sum := "07e29da3e09bb4732370a30d7ba66ff38eca936a1d12cc22e3c3fec68dcec805", func := "braid/braidlaw02.OrderPlays", spec := "orderPlays", unfollowed := true, recurses := true, apart := false, narrowed := true }
def OrderPlaysUptoSaid : Prop := orderPlaysUptoRow.holds Try.pinned (OpenSpec.upto orderPlaysSpec)

end Rows
end Go.Proofs.Ytkebpelpjkgdkab
