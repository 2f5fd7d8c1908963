/-
  No cell of these rows narrows 'for every input' (looked for: loops, veiled, ifaces, maps, wideKeys, modest, calm, conditions, laid).
  DERIVED. THE GIVEN ROWS OF THIS SEAT. 3 by the template 'for every input the law returns true; each argument reads behind the call as it read before'; 0 by the template 'total and deterministic' (their statements: YtmnmphkkcabkiaaTotals.lean).
  GIVEN WITH THE SEED: the statements are not yours to turn. If you find one false, say at which input.
  Laid BY PROGRAM, IN A SANDBOX (cutbox-rows.mjs): the forced cells as the released guide's own fill.sh prints them over the translation 3a25775abb673af5… (all of the seat's roots in one cut). By AI agents, Wed Nov 11 2026. No macro, syntax, notation, axiom, sorry.
-/
import Derived.Test.YtmnmphkkcabkiaaChecked
import GoSem.Claim
import GoSem.ClaimJoined
import GoSem.ClaimMapViews
import Derived.JoinedTies
import Derived.KernelRfl
namespace Go.Proofs.Ytmnmphkkcabkiaa
/- THE CELL 'sum', in the pinned program and in every row, IS THE sha256 OF THE DUMP (.gsa) THAT YtmnmphkkcabkiaaProg.lean LOADS. Nothing in Lean hashes anything: it is a label: what it is worth is what the hold of that sum in a sandbox is worth. -/
noncomputable def Try.pinned : Pinned := { name := "ytmnmphkkcabkiaa", sum := "3a25775abb673af5541f298c46b3ca665bf08d4cf2fac2cfeb78173a7c5f00b5", checked := Try.checked }
namespace Rows
def none {H : Type} : Left H := { results := [], args := [] }

/-- 'braidlaw15.HistoryAt': WHATEVER THE INPUT: true; the input reads as it did. -/
def historyAtSpec : ChangeSpec := { name := "historyAt", fn := fun _ => fun
  | [d1, d2, d3] => { results := [.lit (.bool true)], args := [d1, d2, d3] }
  | _ => none }
def historyAtRow : OpenClaim := { program := "ytmnmphkkcabkiaa", sum := "3a25775abb673af5541f298c46b3ca665bf08d4cf2fac2cfeb78173a7c5f00b5", func := "braid/braidlaw15.HistoryAt", spec := "historyAt", unfollowed := true, recurses := true, apart := false }
def HistoryAtSaid : Prop := historyAtRow.holds Try.pinned (OpenSpec.ofChange historyAtSpec)

/-- ITS FALSE NEIGHBOUR: 'it returns false'. Refute it at one input. -/
def historyAtWrong : ChangeSpec := { name := "historyAt", fn := fun _ => fun
  | [d1, d2, d3] => { results := [.lit (.bool false)], args := [d1, d2, d3] }
  | _ => none }
def HistoryAtWrongFalsely : Prop := historyAtRow.holds Try.pinned (OpenSpec.ofChange historyAtWrong)

/-- 'braidlaw15.HistoryTxs': WHATEVER THE INPUT: true; the input reads as it did. -/
def historyTxsSpec : ChangeSpec := { name := "historyTxs", fn := fun _ => fun
  | [d] => { results := [.lit (.bool true)], args := [d] }
  | _ => none }
def historyTxsRow : OpenClaim := { program := "ytmnmphkkcabkiaa", sum := "3a25775abb673af5541f298c46b3ca665bf08d4cf2fac2cfeb78173a7c5f00b5", func := "braid/braidlaw15.HistoryTxs", spec := "historyTxs", unfollowed := true, recurses := true, apart := false }
def HistoryTxsSaid : Prop := historyTxsRow.holds Try.pinned (OpenSpec.ofChange historyTxsSpec)

/-- ITS FALSE NEIGHBOUR: 'it returns false'. Refute it at one input. -/
def historyTxsWrong : ChangeSpec := { name := "historyTxs", fn := fun _ => fun
  | [d] => { results := [.lit (.bool false)], args := [d] }
  | _ => none }
def HistoryTxsWrongFalsely : Prop := historyTxsRow.holds Try.pinned (OpenSpec.ofChange historyTxsWrong)

/-- 'braidlaw15.HistoryApart': WHATEVER THE INPUT: true; the input reads as it did. -/
def historyApartSpec : ChangeSpec := { name := "historyApart", fn := fun _ => fun
  | [d1, d2, d3] => { results := [.lit (.bool true)], args := [d1, d2, d3] }
  | _ => none }
def historyApartRow : OpenClaim := { program := "ytmnmphkkcabkiaa", sum := "3a25775abb673af5541f298c46b3ca665bf08d4cf2fac2cfeb78173a7c5f00b5", func := "braid/braidlaw15.HistoryApart", spec := "historyApart", unfollowed := true, recurses := true, apart := false }
def HistoryApartSaid : Prop := historyApartRow.holds Try.pinned (OpenSpec.ofChange historyApartSpec)

/-- ITS FALSE NEIGHBOUR: 'it returns false'. Refute it at one input. -/
def historyApartWrong : ChangeSpec := { name := "historyApart", fn := fun _ => fun
  | [d1, d2, d3] => { results := [.lit (.bool false)], args := [d1, d2, d3] }
  | _ => none }
def HistoryApartWrongFalsely : Prop := historyApartRow.holds Try.pinned (OpenSpec.ofChange historyApartWrong)

/- THE SECOND FORM. 'bulk': how many values and letters a reading holds, each counted each time it is reached (what is shared counts as often as it is met; a slice's spare places count too). A statement '..UptoSaid' is the law's where the arguments, and the package variables that the reading takes, are together of bulk at most 1048576: NARROWER than '..Said'. Prove '..Said' where nothing that the law and all that it calls make is longer than what came in: it says more and counts as full. Else prove '..UptoSaid'. A law counts once. -/
mutual
def uptoBulk {H : Type} : DataW H → Nat
  | .lit (.string bytes) => bytes.length + 1
  | .lit _ => 1
  | .nil => 1
  | .ptr d => uptoBulk d + 1
  | .slice elems spare => uptoBulkAll elems + uptoBulkAll spare + 1
  | .agg parts => uptoBulkAll parts + 1
  | .iface _ d => uptoBulk d + 1
  | .map entries => uptoBulkEntries entries + 1
  | .held _ => 1
def uptoBulkAll {H : Type} : List (DataW H) → Nat
  | [] => 0
  | d :: r => uptoBulk d + uptoBulkAll r
def uptoBulkEntries {H : Type} : List (Lit × DataW H) → Nat
  | [] => 0
  | x :: r => uptoBulkEntry x + uptoBulkEntries r
def uptoBulkEntry {H : Type} : Lit × DataW H → Nat
  | (.string bytes, d) => bytes.length + uptoBulk d + 1
  | (_, d) => uptoBulk d + 1
 end
def uptoSmall : (H : Type) → List (DataW H) → Bool := fun _ ds => decide (uptoBulkAll ds ≤ 1048576)
def OpenSpec.upto (s : _root_.Go.ChangeSpec) : _root_.Go.OpenSpec := { _root_.Go.OpenSpec.ofChange s with cond := some uptoSmall }

/-- 'braidlaw15.HistoryAt', WHERE WHAT IT READS IS OF BULK AT MOST 1048576: true; the input reads as it did. -/
def historyAtUptoRow : OpenClaim := { program := "ytmnmphkkcabkiaa", sum := "3a25775abb673af5541f298c46b3ca665bf08d4cf2fac2cfeb78173a7c5f00b5", func := "braid/braidlaw15.HistoryAt", spec := "historyAt", unfollowed := true, recurses := true, apart := false, narrowed := true }
def HistoryAtUptoSaid : Prop := historyAtUptoRow.holds Try.pinned (OpenSpec.upto historyAtSpec)

/-- 'braidlaw15.HistoryTxs', WHERE WHAT IT READS IS OF BULK AT MOST 1048576: true; the input reads as it did. -/
def historyTxsUptoRow : OpenClaim := { program := "ytmnmphkkcabkiaa", sum := "3a25775abb673af5541f298c46b3ca665bf08d4cf2fac2cfeb78173a7c5f00b5", func := "braid/braidlaw15.HistoryTxs", spec := "historyTxs", unfollowed := true, recurses := true, apart := false, narrowed := true }
def HistoryTxsUptoSaid : Prop := historyTxsUptoRow.holds Try.pinned (OpenSpec.upto historyTxsSpec)

/-- 'braidlaw15.HistoryApart', WHERE WHAT IT READS IS OF BULK AT MOST 1048576: true; the input reads as it did. -/
def historyApartUptoRow : OpenClaim := { program := "ytmnmphkkcabkiaa", sum := "3a25775abb673af5541f298c46b3ca665bf08d4cf2fac2cfeb78173a7c5f00b5", func := "braid/braidlaw15.HistoryApart", spec := "historyApart", unfollowed := true, recurses := true, apart := false, narrowed := true }
def HistoryApartUptoSaid : Prop := historyApartUptoRow.holds Try.pinned (OpenSpec.upto historyApartSpec)

end Rows
end Go.Proofs.Ytmnmphkkcabkiaa
