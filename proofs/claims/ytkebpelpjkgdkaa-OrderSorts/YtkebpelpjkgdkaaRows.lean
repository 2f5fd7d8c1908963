/-
  No cell of these rows narrows 'for every input' (looked for: loops, veiled, ifaces, maps, wideKeys, modest, calm, conditions, laid).
  DERIVED. THE GIVEN ROWS OF THIS SEAT. 6 by the template 'for every input the law returns true; each argument reads behind the call as it read before'; 0 by the template 'total and deterministic' (their statements: YtkebpelpjkgdkaaTotals.lean).
  GIVEN WITH THE SEED: the statements are not yours to turn. If you find one false, say at which input.
  Laid BY PROGRAM, IN A SANDBOX (cutbox-rows.mjs): the forced cells as the released guide's own fill.sh prints them over the translation cef73667ed8e3629… (all of the seat's roots in one cut). By AI agents, Wed Nov 11 2026. No macro, syntax, notation, axiom, sorry.
-/
import Derived.Test.YtkebpelpjkgdkaaChecked
import GoSem.Claim
import GoSem.ClaimJoined
import GoSem.ClaimMapViews
import Derived.JoinedTies
import Derived.KernelRfl
namespace Go.Proofs.Ytkebpelpjkgdkaa
/- THE CELL 'sum', in the pinned program and in every row, IS THE sha256 OF THE DUMP (.gsa) THAT YtkebpelpjkgdkaaProg.lean LOADS. Nothing in Lean hashes anything: it is a label: what it is worth is what the hold of that sum in a sandbox is worth. -/
noncomputable def Try.pinned : Pinned := { name := "ytkebpelpjkgdkaa", sum := "cef73667ed8e3629645d2c34038fb394eaa52f92dc5903ccdb2368101d94bf5c", checked := Try.checked }
namespace Rows
def none {H : Type} : Left H := { results := [], args := [] }

/-- 'braidlaw01.WordDraws': WHATEVER THE INPUT: true; the input reads as it did. -/
def wordDrawsSpec : ChangeSpec := { name := "wordDraws", fn := fun _ => fun
  | [d] => { results := [.lit (.bool true)], args := [d] }
  | _ => none }
def wordDrawsRow : OpenClaim := { program := "ytkebpelpjkgdkaa", sum := "cef73667ed8e3629645d2c34038fb394eaa52f92dc5903ccdb2368101d94bf5c", func := "braid/braidlaw01.WordDraws", spec := "wordDraws", apart := false }
def WordDrawsSaid : Prop := wordDrawsRow.holds Try.pinned (OpenSpec.ofChange wordDrawsSpec)

/-- ITS FALSE NEIGHBOUR: 'it returns false'. Refute it at one input. -/
def wordDrawsWrong : ChangeSpec := { name := "wordDraws", fn := fun _ => fun
  | [d] => { results := [.lit (.bool false)], args := [d] }
  | _ => none }
def WordDrawsWrongFalsely : Prop := wordDrawsRow.holds Try.pinned (OpenSpec.ofChange wordDrawsWrong)

/-- 'braidlaw02.OrderSorted': WHATEVER THE INPUT: true; the input reads as it did. -/
def orderSortedSpec : ChangeSpec := { name := "orderSorted", fn := fun _ => fun
  | [d] => { results := [.lit (.bool true)], args := [d] }
  | _ => none }
def orderSortedRow : OpenClaim := { program := "ytkebpelpjkgdkaa", sum := "cef73667ed8e3629645d2c34038fb394eaa52f92dc5903ccdb2368101d94bf5c", func := "braid/braidlaw02.OrderSorted", spec := "orderSorted", unfollowed := true, recurses := true, apart := false }
def OrderSortedSaid : Prop := orderSortedRow.holds Try.pinned (OpenSpec.ofChange orderSortedSpec)

/-- ITS FALSE NEIGHBOUR: 'it returns false'. Refute it at one input. -/
def orderSortedWrong : ChangeSpec := { name := "orderSorted", fn := fun _ => fun
  | [d] => { results := [.lit (.bool false)], args := [d] }
  | _ => none }
def OrderSortedWrongFalsely : Prop := orderSortedRow.holds Try.pinned (OpenSpec.ofChange orderSortedWrong)

/-- 'braidlaw02.OrderSorts': WHATEVER THE INPUT: true; the input reads as it did. -/
def orderSortsSpec : ChangeSpec := { name := "orderSorts", fn := fun _ => fun
  | [d1, d2] => { results := [.lit (.bool true)], args := [d1, d2] }
  | _ => none }
def orderSortsRow : OpenClaim := { program := "ytkebpelpjkgdkaa", sum := "cef73667ed8e3629645d2c34038fb394eaa52f92dc5903ccdb2368101d94bf5c", func := "braid/braidlaw02.OrderSorts", spec := "orderSorts", unfollowed := true, recurses := true, apart := false }
def OrderSortsSaid : Prop := orderSortsRow.holds Try.pinned (OpenSpec.ofChange orderSortsSpec)

/-- ITS FALSE NEIGHBOUR: 'it returns false'. Refute it at one input. -/
def orderSortsWrong : ChangeSpec := { name := "orderSorts", fn := fun _ => fun
  | [d1, d2] => { results := [.lit (.bool false)], args := [d1, d2] }
  | _ => none }
def OrderSortsWrongFalsely : Prop := orderSortsRow.holds Try.pinned (OpenSpec.ofChange orderSortsWrong)

/-- 'braidlaw02.OrderFull': WHATEVER THE INPUT: true; the input reads as it did. -/
def orderFullSpec : ChangeSpec := { name := "orderFull", fn := fun _ => fun
  | [d1, d2] => { results := [.lit (.bool true)], args := [d1, d2] }
  | _ => none }
def orderFullRow : OpenClaim := { program := "ytkebpelpjkgdkaa", sum := "cef73667ed8e3629645d2c34038fb394eaa52f92dc5903ccdb2368101d94bf5c", func := "braid/braidlaw02.OrderFull", spec := "orderFull", unfollowed := true, recurses := true, apart := false }
def OrderFullSaid : Prop := orderFullRow.holds Try.pinned (OpenSpec.ofChange orderFullSpec)

/-- ITS FALSE NEIGHBOUR: 'it returns false'. Refute it at one input. -/
def orderFullWrong : ChangeSpec := { name := "orderFull", fn := fun _ => fun
  | [d1, d2] => { results := [.lit (.bool false)], args := [d1, d2] }
  | _ => none }
def OrderFullWrongFalsely : Prop := orderFullRow.holds Try.pinned (OpenSpec.ofChange orderFullWrong)

/-- 'braidlaw02.OrderNames': WHATEVER THE INPUT: true; the input reads as it did. -/
def orderNamesSpec : ChangeSpec := { name := "orderNames", fn := fun _ => fun
  | [] => { results := [.lit (.bool true)], args := [] }
  | _ => none }
def orderNamesRow : OpenClaim := { program := "ytkebpelpjkgdkaa", sum := "cef73667ed8e3629645d2c34038fb394eaa52f92dc5903ccdb2368101d94bf5c", func := "braid/braidlaw02.OrderNames", spec := "orderNames", unfollowed := true, recurses := true, apart := false }
def OrderNamesSaid : Prop := orderNamesRow.holds Try.pinned (OpenSpec.ofChange orderNamesSpec)

/-- ITS FALSE NEIGHBOUR: 'it returns false'. Refute it at one input. -/
def orderNamesWrong : ChangeSpec := { name := "orderNames", fn := fun _ => fun
  | [] => { results := [.lit (.bool false)], args := [] }
  | _ => none }
def OrderNamesWrongFalsely : Prop := orderNamesRow.holds Try.pinned (OpenSpec.ofChange orderNamesWrong)

/-- 'braidlaw02.OrderDrains': WHATEVER THE INPUT: true; the input reads as it did. -/
def orderDrainsSpec : ChangeSpec := { name := "orderDrains", fn := fun _ => fun
  | [d] => { results := [.lit (.bool true)], args := [d] }
  | _ => none }
def orderDrainsRow : OpenClaim := { program := "ytkebpelpjkgdkaa", sum := "cef73667ed8e3629645d2c34038fb394eaa52f92dc5903ccdb2368101d94bf5c", func := "braid/braidlaw02.OrderDrains", spec := "orderDrains", unfollowed := true, recurses := true, apart := false }
def OrderDrainsSaid : Prop := orderDrainsRow.holds Try.pinned (OpenSpec.ofChange orderDrainsSpec)

/-- ITS FALSE NEIGHBOUR: 'it returns false'. Refute it at one input. -/
def orderDrainsWrong : ChangeSpec := { name := "orderDrains", fn := fun _ => fun
  | [d] => { results := [.lit (.bool false)], args := [d] }
  | _ => none }
def OrderDrainsWrongFalsely : Prop := orderDrainsRow.holds Try.pinned (OpenSpec.ofChange orderDrainsWrong)

/- THE SECOND FORM. 'bulk': how many values and letters a reading holds, each counted each time it is reached (what is shared counts as often as it is met; a slice's spare places count too). A statement '..UptoSaid' is the law's where the arguments, and the package variables that the reading takes, are together of bulk at most 1048576: NARROWER than '..Said'. Prove '..Said' where nothing that the law and all that it calls make is longer than what came in: it says more and counts as full. Else prove '..UptoSaid'. A law counts once. -/
mutual
def uptoBulk {H : Type} : DataW H → Nat
  | .lit (.string bytes) => bytes.length + 1
  | .lit _ => 1
  | .nil => 1
  | .ptr d => uptoBulk d + 1
  | .slice elems spare => uptoBulkAll elems + uptoBulkAll spare + 1
  | .agg parts => uptoBulkAll parts + 1
  | .iface _ d => uptoBulk d + 1
  | .map entries => uptoBulkEntries entries + 1
  | .held _ => 1
def uptoBulkAll {H : Type} : List (DataW H) → Nat
  | [] => 0
  | d :: r => uptoBulk d + uptoBulkAll r
def uptoBulkEntries {H : Type} : List (Lit × DataW H) → Nat
  | [] => 0
  | x :: r => uptoBulkEntry x + uptoBulkEntries r
def uptoBulkEntry {H : Type} : Lit × DataW H → Nat
  | (.string bytes, d) => bytes.length + uptoBulk d + 1
  | (_, d) => uptoBulk d + 1
 end
def uptoSmall : (H : Type) → List (DataW H) → Bool := fun _ ds => decide (uptoBulkAll ds ≤ 1048576)
def OpenSpec.upto (s : _root_.Go.ChangeSpec) : _root_.Go.OpenSpec := { _root_.Go.OpenSpec.ofChange s with cond := some uptoSmall }

/-- 'braidlaw01.WordDraws', WHERE WHAT IT READS IS OF BULK AT MOST 1048576: true; the input reads as it did. -/
def wordDrawsUptoRow : OpenClaim := { program := "ytkebpelpjkgdkaa", sum := "cef73667ed8e3629645d2c34038fb394eaa52f92dc5903ccdb2368101d94bf5c", func := "braid/braidlaw01.WordDraws", spec := "wordDraws", apart := false, narrowed := true }
def WordDrawsUptoSaid : Prop := wordDrawsUptoRow.holds Try.pinned (OpenSpec.upto wordDrawsSpec)

/-- 'braidlaw02.OrderSorted', WHERE WHAT IT READS IS OF BULK AT MOST 1048576: true; the input reads as it did. -/
def orderSortedUptoRow : OpenClaim := { program := "ytkebpelpjkgdkaa", sum := "cef73667ed8e3629645d2c34038fb394eaa52f92dc5903ccdb2368101d94bf5c", func := "braid/braidlaw02.OrderSorted", spec := "orderSorted", unfollowed := true, recurses := true, apart := false, narrowed := true }
def OrderSortedUptoSaid : Prop := orderSortedUptoRow.holds Try.pinned (OpenSpec.upto orderSortedSpec)

/-- 'braidlaw02.OrderSorts', WHERE WHAT IT READS IS OF BULK AT MOST 1048576: true; the input reads as it did. -/
def orderSortsUptoRow : OpenClaim := { program := "ytkebpelpjkgdkaa", sum := "cef73667ed8e3629645d2c34038fb394eaa52f92dc5903ccdb2368101d94bf5c", func := "braid/braidlaw02.OrderSorts", spec := "orderSorts", unfollowed := true, recurses := true, apart := false, narrowed := true }
def OrderSortsUptoSaid : Prop := orderSortsUptoRow.holds Try.pinned (OpenSpec.upto orderSortsSpec)

/-- 'braidlaw02.OrderFull', WHERE WHAT IT READS IS OF BULK AT MOST 1048576: true; the input reads as it did. -/
def orderFullUptoRow : OpenClaim := { program := "ytkebpelpjkgdkaa", sum := "cef73667ed8e3629645d2c34038fb394eaa52f92dc5903ccdb2368101d94bf5c", func := "braid/braidlaw02.OrderFull", spec := "orderFull", unfollowed := true, recurses := true, apart := false, narrowed := true }
def OrderFullUptoSaid : Prop := orderFullUptoRow.holds Try.pinned (OpenSpec.upto orderFullSpec)

/-- 'braidlaw02.OrderNames', WHERE WHAT IT READS IS OF BULK AT MOST 1048576: true; the input reads as it did. -/
def orderNamesUptoRow : OpenClaim := { program := "ytkebpelpjkgdkaa", sum := "cef73667ed8e3629645d2c34038fb394eaa52f92dc5903ccdb2368101d94bf5c", func := "braid/braidlaw02.OrderNames", spec := "orderNames", unfollowed := true, recurses := true, apart := false, narrowed := true }
def OrderNamesUptoSaid : Prop := orderNamesUptoRow.holds Try.pinned (OpenSpec.upto orderNamesSpec)

/-- 'braidlaw02.OrderDrains', WHERE WHAT IT READS IS OF BULK AT MOST 1048576: true; the input reads as it did. -/
def orderDrainsUptoRow : OpenClaim := { program := "ytkebpelpjkgdkaa", sum := "cef73667ed8e3629645d2c34038fb394eaa52f92dc5903ccdb2368101d94bf5c", func := "braid/braidlaw02.OrderDrains", spec := "orderDrains", unfollowed := true, recurses := true, apart := false, narrowed := true }
def OrderDrainsUptoSaid : Prop := orderDrainsUptoRow.holds Try.pinned (OpenSpec.upto orderDrainsSpec)

end Rows
end Go.Proofs.Ytkebpelpjkgdkaa
