/-
  No cell of these rows narrows 'for every input' (looked for: loops, veiled, ifaces, maps, wideKeys, modest, calm, conditions, laid).
  DERIVED. THE GIVEN ROWS OF THIS SEAT. 5 by the template 'for every input the law returns true; each argument reads behind the call as it read before'; 0 by the template 'total and deterministic' (their statements: YtmcchconnfoffabTotals.lean).
  GIVEN WITH THE SEED: the statements are not yours to turn. If you find one false, say at which input.
  Laid BY PROGRAM, IN A SANDBOX (cutbox-rows.mjs): the forced cells as the released guide's own fill.sh prints them over the translation cb4137308cbc6a9d… (all of the seat's roots in one cut). By AI agents, Wed Nov 11 2026. No macro, syntax, notation, axiom, sorry.
-/
import Derived.Test.YtmcchconnfoffabChecked
import GoSem.Claim
import GoSem.ClaimJoined
import GoSem.ClaimMapViews
import Derived.JoinedTies
import Derived.KernelRfl
namespace Go.Proofs.Ytmcchconnfoffab
/- THE CELL 'sum', in the pinned program and in every row, IS THE sha256 OF THE DUMP (.gsa) THAT YtmcchconnfoffabProg.lean LOADS. Nothing in Lean hashes anything: it is a label: what it is worth is what the hold of that sum in a sandbox is worth. -/
noncomputable def Try.pinned : Pinned := { name := "ytmcchconnfoffab", sum := "cb4137308cbc6a9df6eb06938b6101655f97d06f4e4ce1cb3ac1227cdd42eb82", checked := Try.checked }
namespace Rows
def none {H : Type} : Left H := { results := [], args := [] }

/-- 'braidlaw06.CmBlind': WHATEVER THE INPUT: true; the input reads as it did. -/
def cmBlindSpec : ChangeSpec := { name := "cmBlind", fn := fun _ => fun
  | [d1, d2] => { results := [.lit (.bool true)], args := [d1, d2] }
  | _ => none }
def cmBlindRow : OpenClaim := { program := "ytmcchconnfoffab", sum := "cb4137308cbc6a9df6eb06938b6101655f97d06f4e4ce1cb3ac1227cdd42eb82", func := "braid/braidlaw06.CmBlind", spec := "cmBlind", unfollowed := true, recurses := true, apart := false }
def CmBlindSaid : Prop := cmBlindRow.holds Try.pinned (OpenSpec.ofChange cmBlindSpec)

/-- ITS FALSE NEIGHBOUR: 'it returns false'. Refute it at one input. -/
def cmBlindWrong : ChangeSpec := { name := "cmBlind", fn := fun _ => fun
  | [d1, d2] => { results := [.lit (.bool false)], args := [d1, d2] }
  | _ => none }
def CmBlindWrongFalsely : Prop := cmBlindRow.holds Try.pinned (OpenSpec.ofChange cmBlindWrong)

/-- 'braidlaw06.CmAll': WHATEVER THE INPUT: true; the input reads as it did. -/
def cmAllSpec : ChangeSpec := { name := "cmAll", fn := fun _ => fun
  | [d1, d2] => { results := [.lit (.bool true)], args := [d1, d2] }
  | _ => none }
def cmAllRow : OpenClaim := { program := "ytmcchconnfoffab", sum := "cb4137308cbc6a9df6eb06938b6101655f97d06f4e4ce1cb3ac1227cdd42eb82", func := "braid/braidlaw06.CmAll", spec := "cmAll", unfollowed := true, recurses := true, apart := false }
def CmAllSaid : Prop := cmAllRow.holds Try.pinned (OpenSpec.ofChange cmAllSpec)

/-- ITS FALSE NEIGHBOUR: 'it returns false'. Refute it at one input. -/
def cmAllWrong : ChangeSpec := { name := "cmAll", fn := fun _ => fun
  | [d1, d2] => { results := [.lit (.bool false)], args := [d1, d2] }
  | _ => none }
def CmAllWrongFalsely : Prop := cmAllRow.holds Try.pinned (OpenSpec.ofChange cmAllWrong)

/-- 'braidlaw06.CmPolite': WHATEVER THE INPUT: true; the input reads as it did. -/
def cmPoliteSpec : ChangeSpec := { name := "cmPolite", fn := fun _ => fun
  | [d1, d2] => { results := [.lit (.bool true)], args := [d1, d2] }
  | _ => none }
def cmPoliteRow : OpenClaim := { program := "ytmcchconnfoffab", sum := "cb4137308cbc6a9df6eb06938b6101655f97d06f4e4ce1cb3ac1227cdd42eb82", func := "braid/braidlaw06.CmPolite", spec := "cmPolite", unfollowed := true, recurses := true, apart := false }
def CmPoliteSaid : Prop := cmPoliteRow.holds Try.pinned (OpenSpec.ofChange cmPoliteSpec)

/-- ITS FALSE NEIGHBOUR: 'it returns false'. Refute it at one input. -/
def cmPoliteWrong : ChangeSpec := { name := "cmPolite", fn := fun _ => fun
  | [d1, d2] => { results := [.lit (.bool false)], args := [d1, d2] }
  | _ => none }
def CmPoliteWrongFalsely : Prop := cmPoliteRow.holds Try.pinned (OpenSpec.ofChange cmPoliteWrong)

/-- 'braidlaw06.CmKarma': WHATEVER THE INPUT: true; the input reads as it did. -/
def cmKarmaSpec : ChangeSpec := { name := "cmKarma", fn := fun _ => fun
  | [d1, d2] => { results := [.lit (.bool true)], args := [d1, d2] }
  | _ => none }
def cmKarmaRow : OpenClaim := { program := "ytmcchconnfoffab", sum := "cb4137308cbc6a9df6eb06938b6101655f97d06f4e4ce1cb3ac1227cdd42eb82", func := "braid/braidlaw06.CmKarma", spec := "cmKarma", unfollowed := true, recurses := true, apart := false }
def CmKarmaSaid : Prop := cmKarmaRow.holds Try.pinned (OpenSpec.ofChange cmKarmaSpec)

/-- ITS FALSE NEIGHBOUR: 'it returns false'. Refute it at one input. -/
def cmKarmaWrong : ChangeSpec := { name := "cmKarma", fn := fun _ => fun
  | [d1, d2] => { results := [.lit (.bool false)], args := [d1, d2] }
  | _ => none }
def CmKarmaWrongFalsely : Prop := cmKarmaRow.holds Try.pinned (OpenSpec.ofChange cmKarmaWrong)

/-- 'braidlaw06.CmPolka': WHATEVER THE INPUT: true; the input reads as it did. -/
def cmPolkaSpec : ChangeSpec := { name := "cmPolka", fn := fun _ => fun
  | [d1, d2] => { results := [.lit (.bool true)], args := [d1, d2] }
  | _ => none }
def cmPolkaRow : OpenClaim := { program := "ytmcchconnfoffab", sum := "cb4137308cbc6a9df6eb06938b6101655f97d06f4e4ce1cb3ac1227cdd42eb82", func := "braid/braidlaw06.CmPolka", spec := "cmPolka", unfollowed := true, recurses := true, apart := false }
def CmPolkaSaid : Prop := cmPolkaRow.holds Try.pinned (OpenSpec.ofChange cmPolkaSpec)

/-- ITS FALSE NEIGHBOUR: 'it returns false'. Refute it at one input. -/
def cmPolkaWrong : ChangeSpec := { name := "cmPolka", fn := fun _ => fun
  | [d1, d2] => { results := [.lit (.bool false)], args := [d1, d2] }
  | _ => none }
def CmPolkaWrongFalsely : Prop := cmPolkaRow.holds Try.pinned (OpenSpec.ofChange cmPolkaWrong)

/- THE SECOND FORM. 'bulk': how many values and letters a reading holds, each counted each time it is reached (what is shared counts as often as it is met; a slice's spare places count too). A statement '..UptoSaid' is the law's where the arguments, and the package variables that the reading takes, are together of bulk at most 1048576: NARROWER than '..Said'. Prove '..Said' where nothing that the law and all that it calls make is longer than what came in: it says more and counts as full. Else prove '..UptoSaid'. A law counts once. -/
mutual
def uptoBulk {H : Type} : DataW H → Nat
  | .lit (.string bytes) => bytes.length + 1
  | .lit _ => 1
  | .nil => 1
  | .ptr d => uptoBulk d + 1
  | .slice elems spare => uptoBulkAll elems + uptoBulkAll spare + 1
  | .agg parts => uptoBulkAll parts + 1
  | .iface _ d => uptoBulk d + 1
  | .map entries => uptoBulkEntries entries + 1
  | .held _ => 1
def uptoBulkAll {H : Type} : List (DataW H) → Nat
  | [] => 0
  | d :: r => uptoBulk d + uptoBulkAll r
def uptoBulkEntries {H : Type} : List (Lit × DataW H) → Nat
  | [] => 0
  | x :: r => uptoBulkEntry x + uptoBulkEntries r
def uptoBulkEntry {H : Type} : Lit × DataW H → Nat
  | (.string bytes, d) => bytes.length + uptoBulk d + 1
  | (_, d) => uptoBulk d + 1
 end
def uptoSmall : (H : Type) → List (DataW H) → Bool := fun _ ds => decide (uptoBulkAll ds ≤ 1048576)
def OpenSpec.upto (s : _root_.Go.ChangeSpec) : _root_.Go.OpenSpec := { _root_.Go.OpenSpec.ofChange s with cond := some uptoSmall }

/-- 'braidlaw06.CmBlind', WHERE WHAT IT READS IS OF BULK AT MOST 1048576: true; the input reads as it did. -/
def cmBlindUptoRow : OpenClaim := { program := "ytmcchconnfoffab", sum := "cb4137308cbc6a9df6eb06938b6101655f97d06f4e4ce1cb3ac1227cdd42eb82", func := "braid/braidlaw06.CmBlind", spec := "cmBlind", unfollowed := true, recurses := true, apart := false, narrowed := true }
def CmBlindUptoSaid : Prop := cmBlindUptoRow.holds Try.pinned (OpenSpec.upto cmBlindSpec)

/-- 'braidlaw06.CmAll', WHERE WHAT IT READS IS OF BULK AT MOST 1048576: true; the input reads as it did. -/
def cmAllUptoRow : OpenClaim := { program := "ytmcchconnfoffab", sum := "cb4137308cbc6a9df6eb06938b6101655f97d06f4e4ce1cb3ac1227cdd42eb82", func := "braid/braidlaw06.CmAll", spec := "cmAll", unfollowed := true, recurses := true, apart := false, narrowed := true }
def CmAllUptoSaid : Prop := cmAllUptoRow.holds Try.pinned (OpenSpec.upto cmAllSpec)

/-- 'braidlaw06.CmPolite', WHERE WHAT IT READS IS OF BULK AT MOST 1048576: true; the input reads as it did. -/
def cmPoliteUptoRow : OpenClaim := { program := "ytmcchconnfoffab", sum := "cb4137308cbc6a9df6eb06938b6101655f97d06f4e4ce1cb3ac1227cdd42eb82", func := "braid/braidlaw06.CmPolite", spec := "cmPolite", unfollowed := true, recurses := true, apart := false, narrowed := true }
def CmPoliteUptoSaid : Prop := cmPoliteUptoRow.holds Try.pinned (OpenSpec.upto cmPoliteSpec)

/-- 'braidlaw06.CmKarma', WHERE WHAT IT READS IS OF BULK AT MOST 1048576: true; the input reads as it did. -/
def cmKarmaUptoRow : OpenClaim := { program := "ytmcchconnfoffab", sum := "cb4137308cbc6a9df6eb06938b6101655f97d06f4e4ce1cb3ac1227cdd42eb82", func := "braid/braidlaw06.CmKarma", spec := "cmKarma", unfollowed := true, recurses := true, apart := false, narrowed := true }
def CmKarmaUptoSaid : Prop := cmKarmaUptoRow.holds Try.pinned (OpenSpec.upto cmKarmaSpec)

/-- 'braidlaw06.CmPolka', WHERE WHAT IT READS IS OF BULK AT MOST 1048576: true; the input reads as it did. -/
def cmPolkaUptoRow : OpenClaim := { program := "ytmcchconnfoffab", sum := "cb4137308cbc6a9df6eb06938b6101655f97d06f4e4ce1cb3ac1227cdd42eb82", func := "braid/braidlaw06.CmPolka", spec := "cmPolka", unfollowed := true, recurses := true, apart := false, narrowed := true }
def CmPolkaUptoSaid : Prop := cmPolkaUptoRow.holds Try.pinned (OpenSpec.upto cmPolkaSpec)

end Rows
end Go.Proofs.Ytmcchconnfoffab
