/-
  No cell of these rows narrows 'for every input' (looked for: loops, veiled, ifaces, maps, wideKeys, modest, calm, conditions, laid).
  DERIVED. THE GIVEN ROWS OF THIS SEAT. 5 by the template 'for every input the law returns true; each argument reads behind the call as it read before'; 0 by the template 'total and deterministic' (their statements: YthmoimilhbmagabTotals.lean).
  GIVEN WITH THE SEED: the statements are not yours to turn. If you find one false, say at which input.
  Laid BY PROGRAM, IN A SANDBOX (cutbox-rows.mjs): the forced cells as the released guide's own fill.sh prints them over the translation e2db090ebe3be7d3… (all of the seat's roots in one cut). By AI agents, Wed Nov 11 2026. No macro, syntax, notation, axiom, sorry.
-/
import Derived.Test.YthmoimilhbmagabChecked
import GoSem.Claim
import GoSem.ClaimJoined
import GoSem.ClaimMapViews
import Derived.JoinedTies
import Derived.KernelRfl
namespace Go.Proofs.Ythmoimilhbmagab
/- THE CELL 'sum', in the pinned program and in every row, IS THE sha256 OF THE DUMP (.gsa) THAT YthmoimilhbmagabProg.lean LOADS. Nothing in Lean hashes anything: it is a label: what it is worth is what the hold of that sum in a sandbox is worth. -/
noncomputable def Try.pinned : Pinned := { name := "ythmoimilhbmagab", sum := "e2db090ebe3be7d3ea36cb85eee5e1e3e0dd0ee4beb979cc2f701730a7c4d81b", checked := Try.checked }
namespace Rows
def none {H : Type} : Left H := { results := [], args := [] }

/-- 'braidlaw01.WordStream': WHATEVER THE INPUT: true; the input reads as it did. -/
def wordStreamSpec : ChangeSpec := { name := "wordStream", fn := fun _ => fun
  | [d1, d2] => { results := [.lit (.bool true)], args := [d1, d2] }
  | _ => none }
def wordStreamRow : OpenClaim := { program := "ythmoimilhbmagab", sum := "e2db090ebe3be7d3ea36cb85eee5e1e3e0dd0ee4beb979cc2f701730a7c4d81b", func := "braid/braidlaw01.WordStream", spec := "wordStream", apart := false }
def WordStreamSaid : Prop := wordStreamRow.holds Try.pinned (OpenSpec.ofChange wordStreamSpec)

/-- ITS FALSE NEIGHBOUR: 'it returns false'. Refute it at one input. -/
def wordStreamWrong : ChangeSpec := { name := "wordStream", fn := fun _ => fun
  | [d1, d2] => { results := [.lit (.bool false)], args := [d1, d2] }
  | _ => none }
def WordStreamWrongFalsely : Prop := wordStreamRow.holds Try.pinned (OpenSpec.ofChange wordStreamWrong)

/-- 'braidlaw01.WordOrdered': WHATEVER THE INPUT: true; the input reads as it did. -/
def wordOrderedSpec : ChangeSpec := { name := "wordOrdered", fn := fun _ => fun
  | [d1, d2, d3] => { results := [.lit (.bool true)], args := [d1, d2, d3] }
  | _ => none }
def wordOrderedRow : OpenClaim := { program := "ythmoimilhbmagab", sum := "e2db090ebe3be7d3ea36cb85eee5e1e3e0dd0ee4beb979cc2f701730a7c4d81b", func := "braid/braidlaw01.WordOrdered", spec := "wordOrdered", unfollowed := true, recurses := true, apart := false }
def WordOrderedSaid : Prop := wordOrderedRow.holds Try.pinned (OpenSpec.ofChange wordOrderedSpec)

/-- ITS FALSE NEIGHBOUR: 'it returns false'. Refute it at one input. -/
def wordOrderedWrong : ChangeSpec := { name := "wordOrdered", fn := fun _ => fun
  | [d1, d2, d3] => { results := [.lit (.bool false)], args := [d1, d2, d3] }
  | _ => none }
def WordOrderedWrongFalsely : Prop := wordOrderedRow.holds Try.pinned (OpenSpec.ofChange wordOrderedWrong)

/-- 'braidlaw01.WordEnds': WHATEVER THE INPUT: true; the input reads as it did. -/
def wordEndsSpec : ChangeSpec := { name := "wordEnds", fn := fun _ => fun
  | [d1, d2, d3] => { results := [.lit (.bool true)], args := [d1, d2, d3] }
  | _ => none }
def wordEndsRow : OpenClaim := { program := "ythmoimilhbmagab", sum := "e2db090ebe3be7d3ea36cb85eee5e1e3e0dd0ee4beb979cc2f701730a7c4d81b", func := "braid/braidlaw01.WordEnds", spec := "wordEnds", unfollowed := true, recurses := true, apart := false }
def WordEndsSaid : Prop := wordEndsRow.holds Try.pinned (OpenSpec.ofChange wordEndsSpec)

/-- ITS FALSE NEIGHBOUR: 'it returns false'. Refute it at one input. -/
def wordEndsWrong : ChangeSpec := { name := "wordEnds", fn := fun _ => fun
  | [d1, d2, d3] => { results := [.lit (.bool false)], args := [d1, d2, d3] }
  | _ => none }
def WordEndsWrongFalsely : Prop := wordEndsRow.holds Try.pinned (OpenSpec.ofChange wordEndsWrong)

/-- 'braidlaw01.WordApplies': WHATEVER THE INPUT: true; the input reads as it did. -/
def wordAppliesSpec : ChangeSpec := { name := "wordApplies", fn := fun _ => fun
  | [d] => { results := [.lit (.bool true)], args := [d] }
  | _ => none }
def wordAppliesRow : OpenClaim := { program := "ythmoimilhbmagab", sum := "e2db090ebe3be7d3ea36cb85eee5e1e3e0dd0ee4beb979cc2f701730a7c4d81b", func := "braid/braidlaw01.WordApplies", spec := "wordApplies", unfollowed := true, recurses := true, apart := false }
def WordAppliesSaid : Prop := wordAppliesRow.holds Try.pinned (OpenSpec.ofChange wordAppliesSpec)

/-- ITS FALSE NEIGHBOUR: 'it returns false'. Refute it at one input. -/
def wordAppliesWrong : ChangeSpec := { name := "wordApplies", fn := fun _ => fun
  | [d] => { results := [.lit (.bool false)], args := [d] }
  | _ => none }
def WordAppliesWrongFalsely : Prop := wordAppliesRow.holds Try.pinned (OpenSpec.ofChange wordAppliesWrong)

/-- 'braidlaw01.WordStops': WHATEVER THE INPUT: true; the input reads as it did. -/
def wordStopsSpec : ChangeSpec := { name := "wordStops", fn := fun _ => fun
  | [d1, d2] => { results := [.lit (.bool true)], args := [d1, d2] }
  | _ => none }
def wordStopsRow : OpenClaim := { program := "ythmoimilhbmagab", sum := "e2db090ebe3be7d3ea36cb85eee5e1e3e0dd0ee4beb979cc2f701730a7c4d81b", func := "braid/braidlaw01.WordStops", spec := "wordStops", apart := false }
def WordStopsSaid : Prop := wordStopsRow.holds Try.pinned (OpenSpec.ofChange wordStopsSpec)

/-- ITS FALSE NEIGHBOUR: 'it returns false'. Refute it at one input. -/
def wordStopsWrong : ChangeSpec := { name := "wordStops", fn := fun _ => fun
  | [d1, d2] => { results := [.lit (.bool false)], args := [d1, d2] }
  | _ => none }
def WordStopsWrongFalsely : Prop := wordStopsRow.holds Try.pinned (OpenSpec.ofChange wordStopsWrong)

/- THE SECOND FORM. 'bulk': how many values and letters a reading holds, each counted each time it is reached (what is shared counts as often as it is met; a slice's spare places count too). A statement '..UptoSaid' is the law's where the arguments, and the package variables that the reading takes, are together of bulk at most 1048576: NARROWER than '..Said'. Prove '..Said' where nothing that the law and all that it calls make is longer than what came in: it says more and counts as full. Else prove '..UptoSaid'. A law counts once. -/
mutual
def uptoBulk {H : Type} : DataW H → Nat
  | .lit (.string bytes) => bytes.length + 1
  | .lit _ => 1
  | .nil => 1
  | .ptr d => uptoBulk d + 1
  | .slice elems spare => uptoBulkAll elems + uptoBulkAll spare + 1
  | .agg parts => uptoBulkAll parts + 1
  | .iface _ d => uptoBulk d + 1
  | .map entries => uptoBulkEntries entries + 1
  | .held _ => 1
def uptoBulkAll {H : Type} : List (DataW H) → Nat
  | [] => 0
  | d :: r => uptoBulk d + uptoBulkAll r
def uptoBulkEntries {H : Type} : List (Lit × DataW H) → Nat
  | [] => 0
  | x :: r => uptoBulkEntry x + uptoBulkEntries r
def uptoBulkEntry {H : Type} : Lit × DataW H → Nat
  | (.string bytes, d) => bytes.length + uptoBulk d + 1
  | (_, d) => uptoBulk d + 1
 end
def uptoSmall : (H : Type) → List (DataW H) → Bool := fun _ ds => decide (uptoBulkAll ds ≤ 1048576)
def OpenSpec.upto (s : _root_.Go.ChangeSpec) : _root_.Go.OpenSpec := { _root_.Go.OpenSpec.ofChange s with cond := some uptoSmall }

/-- 'braidlaw01.WordStream', WHERE WHAT IT READS IS OF BULK AT MOST 1048576: true; the input reads as it did. -/
def wordStreamUptoRow : OpenClaim := { program := "ythmoimilhbmagab", sum := "e2db090ebe3be7d3ea36cb85eee5e1e3e0dd0ee4beb979cc2f701730a7c4d81b", func := "braid/braidlaw01.WordStream", spec := "wordStream", apart := false, narrowed := true }
def WordStreamUptoSaid : Prop := wordStreamUptoRow.holds Try.pinned (OpenSpec.upto wordStreamSpec)

/-- 'braidlaw01.WordOrdered', WHERE WHAT IT READS IS OF BULK AT MOST 1048576: true; the input reads as it did. -/
def wordOrderedUptoRow : OpenClaim := { program := "ythmoimilhbmagab", sum := "e2db090ebe3be7d3ea36cb85eee5e1e3e0dd0ee4beb979cc2f701730a7c4d81b", func := "braid/braidlaw01.WordOrdered", spec := "wordOrdered", unfollowed := true, recurses := true, apart := false, narrowed := true }
def WordOrderedUptoSaid : Prop := wordOrderedUptoRow.holds Try.pinned (OpenSpec.upto wordOrderedSpec)

/-- 'braidlaw01.WordEnds', WHERE WHAT IT READS IS OF BULK AT MOST 1048576: true; the input reads as it did. -/
def wordEndsUptoRow : OpenClaim := { program := "ythmoimilhbmagab", sum := "e2db090ebe3be7d3ea36cb85eee5e1e3e0dd0ee4beb979cc2f701730a7c4d81b", func := "braid/braidlaw01.WordEnds", spec := "wordEnds", unfollowed := true, recurses := true, apart := false, narrowed := true }
def WordEndsUptoSaid : Prop := wordEndsUptoRow.holds Try.pinned (OpenSpec.upto wordEndsSpec)

/-- 'braidlaw01.WordApplies', WHERE WHAT IT READS IS OF BULK AT MOST 1048576: true; the input reads as it did. -/
def wordAppliesUptoRow : OpenClaim := { program := "ythmoimilhbmagab", sum := "e2db090ebe3be7d3ea36cb85eee5e1e3e0dd0ee4beb979cc2f701730a7c4d81b", func := "braid/braidlaw01.WordApplies", spec := "wordApplies", unfollowed := true, recurses := true, apart := false, narrowed := true }
def WordAppliesUptoSaid : Prop := wordAppliesUptoRow.holds Try.pinned (OpenSpec.upto wordAppliesSpec)

/-- 'braidlaw01.WordStops', WHERE WHAT IT READS IS OF BULK AT MOST 1048576: true; the input reads as it did. -/
def wordStopsUptoRow : OpenClaim := { program := "ythmoimilhbmagab", sum := "e2db090ebe3be7d3ea36cb85eee5e1e3e0dd0ee4beb979cc2f701730a7c4d81b", func := "braid/braidlaw01.WordStops", spec := "wordStops", apart := false, narrowed := true }
def WordStopsUptoSaid : Prop := wordStopsUptoRow.holds Try.pinned (OpenSpec.upto wordStopsSpec)

end Rows
end Go.Proofs.Ythmoimilhbmagab
