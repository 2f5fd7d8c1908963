/-
  NARROWER THAN 'FOR EVERY INPUT', by the rows' own cells (each row's printed sentence says how): RetryStamps: laid · RetryRanks: laid · RetryOnce: laid · RetryClean: laid · RetryComes: laid.
  DERIVED. THE GIVEN ROWS OF THIS SEAT. 5 by the template 'for every input the law returns true; each argument reads behind the call as it read before'; 0 by the template 'total and deterministic' (their statements: YtgjndhbfjofkeaaGreatDoorTotals.lean).
  GIVEN WITH THE SEED: the statements are not yours to turn. If you find one false, say at which input.
  Laid BY PROGRAM, IN A SANDBOX (cutbox-rows.mjs): the forced cells as the released guide's own fill.sh prints them over the translation cbd787c2c3e58936… (all of the seat's roots in one cut). By AI agents, Wed Nov 11 2026. No macro, syntax, notation, axiom, sorry.
-/
import Derived.Test.YtgjndhbfjofkeaaGreatDoorChecked
import GoSem.Claim
import GoSem.ClaimJoined
import GoSem.ClaimMapViews
import Derived.JoinedTies
import Derived.KernelRfl
namespace Go.Proofs.YtgjndhbfjofkeaaGreatDoor
/- THE CELL 'sum', in the pinned program and in every row, IS THE sha256 OF THE DUMP (.gsa) THAT YtgjndhbfjofkeaaGreatDoorProg.lean LOADS. Nothing in Lean hashes anything: it is a label: what it is worth is what the hold of that sum in a sandbox is worth. -/
noncomputable def Tryz.pinned : Pinned := { name := "ytgjndhbfjofkeaagreatdoor", sum := "cbd787c2c3e58936208385c06773720ede1aaa372141a1d444026a275d565316", checked := Tryz.checked }
namespace Rows
def none {H : Type} : Left H := { results := [], args := [] }

/- WHAT THE LISTED PACKAGE-LEVEL VARIABLES READ AS WHEN THE CALL BEGINS. Each datum BY PROGRAM (the guide's laid-datum.mjs) off the statement by which the dump's own 'gosem.cut.vars' lays the variable. In a bare row this is a premise. The card (YtgjndhbfjofkeaaGreatDoorCards.lean) ties it to the program's text. -/
def laid_braid_cm_traits {H : Type} : DataW H := .agg [.agg [.lit (.string [112, 111, 108, 105, 116, 101]), .lit (.int .i64 0), .lit (.bool false), .lit (.bool false)], .agg [.lit (.string [107, 97, 114, 109, 97]), .lit (.int .i64 1), .lit (.bool true), .lit (.bool false)], .agg [.lit (.string [112, 111, 108, 107, 97]), .lit (.int .i64 1), .lit (.bool true), .lit (.bool false)], .agg [.lit (.string [103, 114, 101, 101, 100, 121]), .lit (.int .i64 2), .lit (.bool false), .lit (.bool true)], .agg [.lit (.string [111, 114, 97, 99, 108, 101]), .lit (.int .i64 0), .lit (.bool false), .lit (.bool false)]]

/-- 'braidlaw09.RetryStamps': WHATEVER THE INPUT: true; the input reads as it did. -/
def retryStampsSpec : ChangeSpec := { name := "retryStamps", fn := fun _ => fun
  | [d1, d2] => { results := [.lit (.bool true)], args := [d1, d2] }
  | _ => none }
def retryStampsRow : OpenClaim := { program := "ytgjndhbfjofkeaagreatdoor", sum := "cbd787c2c3e58936208385c06773720ede1aaa372141a1d444026a275d565316", func := "braid/braidlaw09.RetryStamps", spec := "retryStamps", unfollowed := true, recurses := true, named := ["braid/cm.traits"], apart := false, laid := [("braid/cm.traits", laid_braid_cm_traits)] }
def RetryStampsSaid : Prop := retryStampsRow.holds Tryz.pinned (OpenSpec.ofChange retryStampsSpec)

/-- ITS FALSE NEIGHBOUR: 'it returns false'. Refute it at one input. -/
def retryStampsWrong : ChangeSpec := { name := "retryStamps", fn := fun _ => fun
  | [d1, d2] => { results := [.lit (.bool false)], args := [d1, d2] }
  | _ => none }
def RetryStampsWrongFalsely : Prop := retryStampsRow.holds Tryz.pinned (OpenSpec.ofChange retryStampsWrong)

/-- 'braidlaw09.RetryRanks': WHATEVER THE INPUT: true; the input reads as it did. -/
def retryRanksSpec : ChangeSpec := { name := "retryRanks", fn := fun _ => fun
  | [d1, d2] => { results := [.lit (.bool true)], args := [d1, d2] }
  | _ => none }
def retryRanksRow : OpenClaim := { program := "ytgjndhbfjofkeaagreatdoor", sum := "cbd787c2c3e58936208385c06773720ede1aaa372141a1d444026a275d565316", func := "braid/braidlaw09.RetryRanks", spec := "retryRanks", unfollowed := true, recurses := true, named := ["braid/cm.traits"], apart := false, laid := [("braid/cm.traits", laid_braid_cm_traits)] }
def RetryRanksSaid : Prop := retryRanksRow.holds Tryz.pinned (OpenSpec.ofChange retryRanksSpec)

/-- ITS FALSE NEIGHBOUR: 'it returns false'. Refute it at one input. -/
def retryRanksWrong : ChangeSpec := { name := "retryRanks", fn := fun _ => fun
  | [d1, d2] => { results := [.lit (.bool false)], args := [d1, d2] }
  | _ => none }
def RetryRanksWrongFalsely : Prop := retryRanksRow.holds Tryz.pinned (OpenSpec.ofChange retryRanksWrong)

/-- 'braidlaw09.RetryOnce': WHATEVER THE INPUT: true; the input reads as it did. -/
def retryOnceSpec : ChangeSpec := { name := "retryOnce", fn := fun _ => fun
  | [d1, d2] => { results := [.lit (.bool true)], args := [d1, d2] }
  | _ => none }
def retryOnceRow : OpenClaim := { program := "ytgjndhbfjofkeaagreatdoor", sum := "cbd787c2c3e58936208385c06773720ede1aaa372141a1d444026a275d565316", func := "braid/braidlaw09.RetryOnce", spec := "retryOnce", unfollowed := true, recurses := true, named := ["braid/cm.traits"], apart := false, laid := [("braid/cm.traits", laid_braid_cm_traits)] }
def RetryOnceSaid : Prop := retryOnceRow.holds Tryz.pinned (OpenSpec.ofChange retryOnceSpec)

/-- ITS FALSE NEIGHBOUR: 'it returns false'. Refute it at one input. -/
def retryOnceWrong : ChangeSpec := { name := "retryOnce", fn := fun _ => fun
  | [d1, d2] => { results := [.lit (.bool false)], args := [d1, d2] }
  | _ => none }
def RetryOnceWrongFalsely : Prop := retryOnceRow.holds Tryz.pinned (OpenSpec.ofChange retryOnceWrong)

/-- 'braidlaw09.RetryClean': WHATEVER THE INPUT: true; the input reads as it did. -/
def retryCleanSpec : ChangeSpec := { name := "retryClean", fn := fun _ => fun
  | [d1, d2] => { results := [.lit (.bool true)], args := [d1, d2] }
  | _ => none }
def retryCleanRow : OpenClaim := { program := "ytgjndhbfjofkeaagreatdoor", sum := "cbd787c2c3e58936208385c06773720ede1aaa372141a1d444026a275d565316", func := "braid/braidlaw09.RetryClean", spec := "retryClean", unfollowed := true, recurses := true, named := ["braid/cm.traits"], apart := false, laid := [("braid/cm.traits", laid_braid_cm_traits)] }
def RetryCleanSaid : Prop := retryCleanRow.holds Tryz.pinned (OpenSpec.ofChange retryCleanSpec)

/-- ITS FALSE NEIGHBOUR: 'it returns false'. Refute it at one input. -/
def retryCleanWrong : ChangeSpec := { name := "retryClean", fn := fun _ => fun
  | [d1, d2] => { results := [.lit (.bool false)], args := [d1, d2] }
  | _ => none }
def RetryCleanWrongFalsely : Prop := retryCleanRow.holds Tryz.pinned (OpenSpec.ofChange retryCleanWrong)

/-- 'braidlaw09.RetryComes': WHATEVER THE INPUT: true; the input reads as it did. -/
def retryComesSpec : ChangeSpec := { name := "retryComes", fn := fun _ => fun
  | [d1, d2, d3] => { results := [.lit (.bool true)], args := [d1, d2, d3] }
  | _ => none }
def retryComesRow : OpenClaim := { program := "ytgjndhbfjofkeaagreatdoor", sum := "cbd787c2c3e58936208385c06773720ede1aaa372141a1d444026a275d565316", func := "braid/braidlaw09.RetryComes", spec := "retryComes", unfollowed := true, recurses := true, named := ["braid/cm.traits"], apart := false, laid := [("braid/cm.traits", laid_braid_cm_traits)] }
def RetryComesSaid : Prop := retryComesRow.holds Tryz.pinned (OpenSpec.ofChange retryComesSpec)

/-- ITS FALSE NEIGHBOUR: 'it returns false'. Refute it at one input. -/
def retryComesWrong : ChangeSpec := { name := "retryComes", fn := fun _ => fun
  | [d1, d2, d3] => { results := [.lit (.bool false)], args := [d1, d2, d3] }
  | _ => none }
def RetryComesWrongFalsely : Prop := retryComesRow.holds Tryz.pinned (OpenSpec.ofChange retryComesWrong)

/- THE SECOND FORM. 'bulk': how many values and letters a reading holds, each counted each time it is reached (what is shared counts as often as it is met; a slice's spare places count too). A statement '..UptoSaid' is the law's where the arguments, and the package variables that the reading takes, are together of bulk at most 1048576: NARROWER than '..Said'. Prove '..Said' where nothing that the law and all that it calls make is longer than what came in: it says more and counts as full. Else prove '..UptoSaid'. A law counts once. -/
mutual
def uptoBulk {H : Type} : DataW H → Nat
  | .lit (.string bytes) => bytes.length + 1
  | .lit _ => 1
  | .nil => 1
  | .ptr d => uptoBulk d + 1
  | .slice elems spare => uptoBulkAll elems + uptoBulkAll spare + 1
  | .agg parts => uptoBulkAll parts + 1
  | .iface _ d => uptoBulk d + 1
  | .map entries => uptoBulkEntries entries + 1
  | .held _ => 1
def uptoBulkAll {H : Type} : List (DataW H) → Nat
  | [] => 0
  | d :: r => uptoBulk d + uptoBulkAll r
def uptoBulkEntries {H : Type} : List (Lit × DataW H) → Nat
  | [] => 0
  | x :: r => uptoBulkEntry x + uptoBulkEntries r
def uptoBulkEntry {H : Type} : Lit × DataW H → Nat
  | (.string bytes, d) => bytes.length + uptoBulk d + 1
  | (_, d) => uptoBulk d + 1
 end
def uptoSmall : (H : Type) → List (DataW H) → Bool := fun _ ds => decide (uptoBulkAll ds ≤ 1048576)
def OpenSpec.upto (s : _root_.Go.ChangeSpec) : _root_.Go.OpenSpec := { _root_.Go.OpenSpec.ofChange s with cond := some uptoSmall }

/-- 'braidlaw09.RetryStamps', WHERE WHAT IT READS IS OF BULK AT MOST 1048576: true; the input reads as it did. -/
def retryStampsUptoRow : OpenClaim := { program := "ytgjndhbfjofkeaagreatdoor", sum := "cbd787c2c3e58936208385c06773720ede1aaa372141a1d444026a275d565316", func := "braid/braidlaw09.RetryStamps", spec := "retryStamps", unfollowed := true, recurses := true, named := ["braid/cm.traits"], apart := false, laid := [("braid/cm.traits", laid_braid_cm_traits)], narrowed := true }
def RetryStampsUptoSaid : Prop := retryStampsUptoRow.holds Tryz.pinned (OpenSpec.upto retryStampsSpec)

/-- 'braidlaw09.RetryRanks', WHERE WHAT IT READS IS OF BULK AT MOST 1048576: true; the input reads as it did. -/
def retryRanksUptoRow : OpenClaim := { program := "ytgjndhbfjofkeaagreatdoor", sum := "cbd787c2c3e58936208385c06773720ede1aaa372141a1d444026a275d565316", func := "braid/braidlaw09.RetryRanks", spec := "retryRanks", unfollowed := true, recurses := true, named := ["braid/cm.traits"], apart := false, laid := [("braid/cm.traits", laid_braid_cm_traits)], narrowed := true }
def RetryRanksUptoSaid : Prop := retryRanksUptoRow.holds Tryz.pinned (OpenSpec.upto retryRanksSpec)

/-- 'braidlaw09.RetryOnce', WHERE WHAT IT READS IS OF BULK AT MOST 1048576: true; the input reads as it did. -/
def retryOnceUptoRow : OpenClaim := { program := "ytgjndhbfjofkeaagreatdoor", sum := "cbd787c2c3e58936208385c06773720ede1aaa372141a1d444026a275d565316", func := "braid/braidlaw09.RetryOnce", spec := "retryOnce", unfollowed := true, recurses := true, named := ["braid/cm.traits"], apart := false, laid := [("braid/cm.traits", laid_braid_cm_traits)], narrowed := true }
def RetryOnceUptoSaid : Prop := retryOnceUptoRow.holds Tryz.pinned (OpenSpec.upto retryOnceSpec)

/-- 'braidlaw09.RetryClean', WHERE WHAT IT READS IS OF BULK AT MOST 1048576: true; the input reads as it did. -/
def retryCleanUptoRow : OpenClaim := { program := "ytgjndhbfjofkeaagreatdoor", sum := "cbd787c2c3e58936208385c06773720ede1aaa372141a1d444026a275d565316", func := "braid/braidlaw09.RetryClean", spec := "retryClean", unfollowed := true, recurses := true, named := ["braid/cm.traits"], apart := false, laid := [("braid/cm.traits", laid_braid_cm_traits)], narrowed := true }
def RetryCleanUptoSaid : Prop := retryCleanUptoRow.holds Tryz.pinned (OpenSpec.upto retryCleanSpec)

/-- 'braidlaw09.RetryComes', WHERE WHAT IT READS IS OF BULK AT MOST 1048576: true; the input reads as it did. -/
def retryComesUptoRow : OpenClaim := { program := "ytgjndhbfjofkeaagreatdoor", sum := "cbd787c2c3e58936208385c06773720ede1aaa372141a1d444026a275d565316", func := "braid/braidlaw09.RetryComes", spec := "retryComes", unfollowed := true, recurses := true, named := ["braid/cm.traits"], apart := false, laid := [("braid/cm.traits", laid_braid_cm_traits)], narrowed := true }
def RetryComesUptoSaid : Prop := retryComesUptoRow.holds Tryz.pinned (OpenSpec.upto retryComesSpec)

end Rows
end Go.Proofs.YtgjndhbfjofkeaaGreatDoor
