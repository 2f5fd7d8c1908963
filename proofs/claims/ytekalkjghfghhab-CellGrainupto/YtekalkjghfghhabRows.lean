/-
  No cell of these rows narrows 'for every input' (looked for: loops, veiled, ifaces, maps, wideKeys, modest, calm, conditions, laid).
  DERIVED. THE GIVEN ROWS OF THIS SEAT. 6 by the template 'for every input the law returns true; each argument reads behind the call as it read before'; 0 by the template 'total and deterministic' (their statements: YtekalkjghfghhabTotals.lean).
  GIVEN WITH THE SEED: the statements are not yours to turn. If you find one false, say at which input.
  Laid BY PROGRAM, IN A SANDBOX (cutbox-rows.mjs): the forced cells as the released guide's own fill.sh prints them over the translation 90cd8fff7115cda9… (all of the seat's roots in one cut). By AI agents, Wed Nov 11 2026. No macro, syntax, notation, axiom, sorry.
-/
import Derived.Test.YtekalkjghfghhabChecked
import GoSem.Claim
import GoSem.ClaimJoined
import GoSem.ClaimMapViews
import Derived.JoinedTies
import Derived.KernelRfl
namespace Go.Proofs.Ytekalkjghfghhab
/- THE CELL 'sum', in the pinned program and in every row, IS THE sha256 OF THE DUMP (.gsa) THAT YtekalkjghfghhabProg.lean LOADS. Nothing in Lean hashes anything: it is a label: what it is worth is what the hold of that sum in a sandbox is worth. -/
noncomputable def Try.pinned : Pinned := { name := "ytekalkjghfghhab", sum := "90cd8fff7115cda938ab7ecb7b1ccdfc90c7e191b7339c398bf6e1fcdeeea18f", checked := Try.checked }
namespace Rows
def none {H : Type} : Left H := { results := [], args := [] }

/-- 'braidlaw03.CellGrain': WHATEVER THE INPUT: true; the input reads as it did. -/
def cellGrainSpec : ChangeSpec := { name := "cellGrain", fn := fun _ => fun
  | [d] => { results := [.lit (.bool true)], args := [d] }
  | _ => none }
def cellGrainRow : OpenClaim := { program := "ytekalkjghfghhab", sum := "90cd8fff7115cda938ab7ecb7b1ccdfc90c7e191b7339c398bf6e1fcdeeea18f", func := "braid/braidlaw03.CellGrain", spec := "cellGrain", unfollowed := true, recurses := true, apart := false }
def CellGrainSaid : Prop := cellGrainRow.holds Try.pinned (OpenSpec.ofChange cellGrainSpec)

/-- ITS FALSE NEIGHBOUR: 'it returns false'. Refute it at one input. -/
def cellGrainWrong : ChangeSpec := { name := "cellGrain", fn := fun _ => fun
  | [d] => { results := [.lit (.bool false)], args := [d] }
  | _ => none }
def CellGrainWrongFalsely : Prop := cellGrainRow.holds Try.pinned (OpenSpec.ofChange cellGrainWrong)

/-- 'braidlaw03.CellOnce': WHATEVER THE INPUT: true; the input reads as it did. -/
def cellOnceSpec : ChangeSpec := { name := "cellOnce", fn := fun _ => fun
  | [d1, d2, d3, d4, d5] => { results := [.lit (.bool true)], args := [d1, d2, d3, d4, d5] }
  | _ => none }
def cellOnceRow : OpenClaim := { program := "ytekalkjghfghhab", sum := "90cd8fff7115cda938ab7ecb7b1ccdfc90c7e191b7339c398bf6e1fcdeeea18f", func := "braid/braidlaw03.CellOnce", spec := "cellOnce", unfollowed := true, recurses := true, apart := false }
def CellOnceSaid : Prop := cellOnceRow.holds Try.pinned (OpenSpec.ofChange cellOnceSpec)

/-- ITS FALSE NEIGHBOUR: 'it returns false'. Refute it at one input. -/
def cellOnceWrong : ChangeSpec := { name := "cellOnce", fn := fun _ => fun
  | [d1, d2, d3, d4, d5] => { results := [.lit (.bool false)], args := [d1, d2, d3, d4, d5] }
  | _ => none }
def CellOnceWrongFalsely : Prop := cellOnceRow.holds Try.pinned (OpenSpec.ofChange cellOnceWrong)

/-- 'braidlaw03.CellRace': WHATEVER THE INPUT: true; the input reads as it did. -/
def cellRaceSpec : ChangeSpec := { name := "cellRace", fn := fun _ => fun
  | [d] => { results := [.lit (.bool true)], args := [d] }
  | _ => none }
def cellRaceRow : OpenClaim := { program := "ytekalkjghfghhab", sum := "90cd8fff7115cda938ab7ecb7b1ccdfc90c7e191b7339c398bf6e1fcdeeea18f", func := "braid/braidlaw03.CellRace", spec := "cellRace", unfollowed := true, recurses := true, apart := false }
def CellRaceSaid : Prop := cellRaceRow.holds Try.pinned (OpenSpec.ofChange cellRaceSpec)

/-- ITS FALSE NEIGHBOUR: 'it returns false'. Refute it at one input. -/
def cellRaceWrong : ChangeSpec := { name := "cellRace", fn := fun _ => fun
  | [d] => { results := [.lit (.bool false)], args := [d] }
  | _ => none }
def CellRaceWrongFalsely : Prop := cellRaceRow.holds Try.pinned (OpenSpec.ofChange cellRaceWrong)

/-- 'braidlaw03.CellTicket': WHATEVER THE INPUT: true; the input reads as it did. -/
def cellTicketSpec : ChangeSpec := { name := "cellTicket", fn := fun _ => fun
  | [d1, d2] => { results := [.lit (.bool true)], args := [d1, d2] }
  | _ => none }
def cellTicketRow : OpenClaim := { program := "ytekalkjghfghhab", sum := "90cd8fff7115cda938ab7ecb7b1ccdfc90c7e191b7339c398bf6e1fcdeeea18f", func := "braid/braidlaw03.CellTicket", spec := "cellTicket", unfollowed := true, recurses := true, apart := false }
def CellTicketSaid : Prop := cellTicketRow.holds Try.pinned (OpenSpec.ofChange cellTicketSpec)

/-- ITS FALSE NEIGHBOUR: 'it returns false'. Refute it at one input. -/
def cellTicketWrong : ChangeSpec := { name := "cellTicket", fn := fun _ => fun
  | [d1, d2] => { results := [.lit (.bool false)], args := [d1, d2] }
  | _ => none }
def CellTicketWrongFalsely : Prop := cellTicketRow.holds Try.pinned (OpenSpec.ofChange cellTicketWrong)

/-- 'braidlaw03.CellThen': WHATEVER THE INPUT: true; the input reads as it did. -/
def cellThenSpec : ChangeSpec := { name := "cellThen", fn := fun _ => fun
  | [d1, d2] => { results := [.lit (.bool true)], args := [d1, d2] }
  | _ => none }
def cellThenRow : OpenClaim := { program := "ytekalkjghfghhab", sum := "90cd8fff7115cda938ab7ecb7b1ccdfc90c7e191b7339c398bf6e1fcdeeea18f", func := "braid/braidlaw03.CellThen", spec := "cellThen", unfollowed := true, recurses := true, apart := false }
def CellThenSaid : Prop := cellThenRow.holds Try.pinned (OpenSpec.ofChange cellThenSpec)

/-- ITS FALSE NEIGHBOUR: 'it returns false'. Refute it at one input. -/
def cellThenWrong : ChangeSpec := { name := "cellThen", fn := fun _ => fun
  | [d1, d2] => { results := [.lit (.bool false)], args := [d1, d2] }
  | _ => none }
def CellThenWrongFalsely : Prop := cellThenRow.holds Try.pinned (OpenSpec.ofChange cellThenWrong)

/-- 'braidlaw03.CellStops': WHATEVER THE INPUT: true; the input reads as it did. -/
def cellStopsSpec : ChangeSpec := { name := "cellStops", fn := fun _ => fun
  | [d1, d2, d3, d4] => { results := [.lit (.bool true)], args := [d1, d2, d3, d4] }
  | _ => none }
def cellStopsRow : OpenClaim := { program := "ytekalkjghfghhab", sum := "90cd8fff7115cda938ab7ecb7b1ccdfc90c7e191b7339c398bf6e1fcdeeea18f", func := "braid/braidlaw03.CellStops", spec := "cellStops", unfollowed := true, recurses := true, apart := false }
def CellStopsSaid : Prop := cellStopsRow.holds Try.pinned (OpenSpec.ofChange cellStopsSpec)

/-- ITS FALSE NEIGHBOUR: 'it returns false'. Refute it at one input. -/
def cellStopsWrong : ChangeSpec := { name := "cellStops", fn := fun _ => fun
  | [d1, d2, d3, d4] => { results := [.lit (.bool false)], args := [d1, d2, d3, d4] }
  | _ => none }
def CellStopsWrongFalsely : Prop := cellStopsRow.holds Try.pinned (OpenSpec.ofChange cellStopsWrong)

/- THE SECOND FORM. 'bulk': how many values and letters a reading holds, each counted each time it is reached (what is shared counts as often as it is met; a slice's spare places count too). A statement '..UptoSaid' is the law's where the arguments, and the package variables that the reading takes, are together of bulk at most 1048576: NARROWER than '..Said'. Prove '..Said' where nothing that the law and all that it calls make is longer than what came in: it says more and counts as full. Else prove '..UptoSaid'. A law counts once. -/
mutual
def uptoBulk {H : Type} : DataW H → Nat
  | .lit (.string bytes) => bytes.length + 1
  | .lit _ => 1
  | .nil => 1
  | .ptr d => uptoBulk d + 1
  | .slice elems spare => uptoBulkAll elems + uptoBulkAll spare + 1
  | .agg parts => uptoBulkAll parts + 1
  | .iface _ d => uptoBulk d + 1
  | .map entries => uptoBulkEntries entries + 1
  | .held _ => 1
def uptoBulkAll {H : Type} : List (DataW H) → Nat
  | [] => 0
  | d :: r => uptoBulk d + uptoBulkAll r
def uptoBulkEntries {H : Type} : List (Lit × DataW H) → Nat
  | [] => 0
  | x :: r => uptoBulkEntry x + uptoBulkEntries r
def uptoBulkEntry {H : Type} : Lit × DataW H → Nat
  | (.string bytes, d) => bytes.length + uptoBulk d + 1
  | (_, d) => uptoBulk d + 1
 end
def uptoSmall : (H : Type) → List (DataW H) → Bool := fun _ ds => decide (uptoBulkAll ds ≤ 1048576)
def OpenSpec.upto (s : _root_.Go.ChangeSpec) : _root_.Go.OpenSpec := { _root_.Go.OpenSpec.ofChange s with cond := some uptoSmall }

/-- 'braidlaw03.CellGrain', WHERE WHAT IT READS IS OF BULK AT MOST 1048576: true; the input reads as it did. -/
def cellGrainUptoRow : OpenClaim := { program := "ytekalkjghfghhab", sum := "90cd8fff7115cda938ab7ecb7b1ccdfc90c7e191b7339c398bf6e1fcdeeea18f", func := "braid/braidlaw03.CellGrain", spec := "cellGrain", unfollowed := true, recurses := true, apart := false, narrowed := true }
def CellGrainUptoSaid : Prop := cellGrainUptoRow.holds Try.pinned (OpenSpec.upto cellGrainSpec)

/-- 'braidlaw03.CellOnce', WHERE WHAT IT READS IS OF BULK AT MOST 1048576: true; the input reads as it did. -/
def cellOnceUptoRow : OpenClaim := { program := "ytekalkjghfghhab", sum := "90cd8fff7115cda938ab7ecb7b1ccdfc90c7e191b7339c398bf6e1fcdeeea18f", func := "braid/braidlaw03.CellOnce", spec := "cellOnce", unfollowed := true, recurses := true, apart := false, narrowed := true }
def CellOnceUptoSaid : Prop := cellOnceUptoRow.holds Try.pinned (OpenSpec.upto cellOnceSpec)

/-- 'braidlaw03.CellRace', WHERE WHAT IT READS IS OF BULK AT MOST 1048576: true; the input reads as it did. -/
def cellRaceUptoRow : OpenClaim := { program := "ytekalkjghfghhab", sum := "90cd8fff7115cda938ab7ecb7b1ccdfc90c7e191b7339c398bf6e1fcdeeea18f", func := "braid/braidlaw03.CellRace", spec := "cellRace", unfollowed := true, recurses := true, apart := false, narrowed := true }
def CellRaceUptoSaid : Prop := cellRaceUptoRow.holds Try.pinned (OpenSpec.upto cellRaceSpec)

/-- 'braidlaw03.CellTicket', WHERE WHAT IT READS IS OF BULK AT MOST 1048576: true; the input reads as it did. -/
def cellTicketUptoRow : OpenClaim := { program := "ytekalkjghfghhab", sum := "90cd8fff7115cda938ab7ecb7b1ccdfc90c7e191b7339c398bf6e1fcdeeea18f", func := "braid/braidlaw03.CellTicket", spec := "cellTicket", unfollowed := true, recurses := true, apart := false, narrowed := true }
def CellTicketUptoSaid : Prop := cellTicketUptoRow.holds Try.pinned (OpenSpec.upto cellTicketSpec)

/-- 'braidlaw03.CellThen', WHERE WHAT IT READS IS OF BULK AT MOST 1048576: true; the input reads as it did. -/
def cellThenUptoRow : OpenClaim := { program := "ytekalkjghfghhab", sum := "90cd8fff7115cda938ab7ecb7b1ccdfc90c7e191b7339c398bf6e1fcdeeea18f", func := "braid/braidlaw03.CellThen", spec := "cellThen", unfollowed := true, recurses := true, apart := false, narrowed := true }
def CellThenUptoSaid : Prop := cellThenUptoRow.holds Try.pinned (OpenSpec.upto cellThenSpec)

/-- 'braidlaw03.CellStops', WHERE WHAT IT READS IS OF BULK AT MOST 1048576: true; the input reads as it did. -/
def cellStopsUptoRow : OpenClaim := { program := "ytekalkjghfghhab", sum := "90cd8fff7115cda938ab7ecb7b1ccdfc90c7e191b7339c398bf6e1fcdeeea18f", func := "braid/braidlaw03.CellStops", spec := "cellStops", unfollowed := true, recurses := true, apart := false, narrowed := true }
def CellStopsUptoSaid : Prop := cellStopsUptoRow.holds Try.pinned (OpenSpec.upto cellStopsSpec)

end Rows
end Go.Proofs.Ytekalkjghfghhab
