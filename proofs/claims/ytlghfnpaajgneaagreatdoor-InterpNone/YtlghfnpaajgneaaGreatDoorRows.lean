/-
  NARROWER THAN 'FOR EVERY INPUT', by the rows' own cells (each row's printed sentence says how): InterpNone: laid.
  DERIVED. THE GIVEN ROWS OF THIS SEAT. 1 by the template 'for every input the law returns true; each argument reads behind the call as it read before'; 0 by the template 'total and deterministic' (their statements: YtlghfnpaajgneaaGreatDoorTotals.lean).
  GIVEN WITH THE SEED: the statements are not yours to turn. If you find one false, say at which input.
  Laid BY PROGRAM, IN A SANDBOX (cutbox-rows.mjs): the forced cells as the released guide's own fill.sh prints them over the translation 8936696689ba6ba7… (all of the seat's roots in one cut). By AI agents, Wed Nov 11 2026. No macro, syntax, notation, axiom, sorry.
-/
import Derived.Test.YtlghfnpaajgneaaGreatDoorChecked
import GoSem.Claim
import GoSem.ClaimJoined
import GoSem.ClaimMapViews
import Derived.JoinedTies
import Derived.KernelRfl
namespace Go.Proofs.YtlghfnpaajgneaaGreatDoor
/- THE CELL 'sum', in the pinned program and in every row, IS THE sha256 OF THE DUMP (.gsa) THAT YtlghfnpaajgneaaGreatDoorProg.lean LOADS. Nothing in Lean hashes anything: it is a label: what it is worth is what the hold of that sum in a sandbox is worth. -/
noncomputable def Tryz.pinned : Pinned := { name := "ytlghfnpaajgneaagreatdoor", sum := "8936696689ba6ba77e8206ca2aaa82c192d5d0f6251853a9022011d08d3eaf5f", checked := Tryz.checked }
namespace Rows
def none {H : Type} : Left H := { results := [], args := [] }

/- WHAT THE LISTED PACKAGE-LEVEL VARIABLES READ AS WHEN THE CALL BEGINS. Each datum BY PROGRAM (the guide's laid-datum.mjs) off the statement by which the dump's own 'gosem.cut.vars' lays the variable. In a bare row this is a premise. The card (YtlghfnpaajgneaaGreatDoorCards.lean) ties it to the program's text. -/
def laid_braid_cm_traits {H : Type} : DataW H := .agg [.agg [.lit (.string [112, 111, 108, 105, 116, 101]), .lit (.int .i64 0), .lit (.bool false), .lit (.bool false)], .agg [.lit (.string [107, 97, 114, 109, 97]), .lit (.int .i64 1), .lit (.bool true), .lit (.bool false)], .agg [.lit (.string [112, 111, 108, 107, 97]), .lit (.int .i64 1), .lit (.bool true), .lit (.bool false)], .agg [.lit (.string [103, 114, 101, 101, 100, 121]), .lit (.int .i64 2), .lit (.bool false), .lit (.bool true)], .agg [.lit (.string [111, 114, 97, 99, 108, 101]), .lit (.int .i64 0), .lit (.bool false), .lit (.bool false)]]

/-- 'braidlaw12.InterpNone': WHATEVER THE INPUT: true; the input reads as it did. -/
def interpNoneSpec : ChangeSpec := { name := "interpNone", fn := fun _ => fun
  | [] => { results := [.lit (.bool true)], args := [] }
  | _ => none }
def interpNoneRow : OpenClaim := { program := "ytlghfnpaajgneaagreatdoor", sum := "8936696689ba6ba77e8206ca2aaa82c192d5d0f6251853a9022011d08d3eaf5f", func := "braid/braidlaw12.InterpNone", spec := "interpNone", unfollowed := true, recurses := true, named := ["braid/cm.traits"], apart := false, laid := [("braid/cm.traits", laid_braid_cm_traits)] }
def InterpNoneSaid : Prop := interpNoneRow.holds Tryz.pinned (OpenSpec.ofChange interpNoneSpec)

/-- ITS FALSE NEIGHBOUR: 'it returns false'. Refute it at one input. -/
def interpNoneWrong : ChangeSpec := { name := "interpNone", fn := fun _ => fun
  | [] => { results := [.lit (.bool false)], args := [] }
  | _ => none }
def InterpNoneWrongFalsely : Prop := interpNoneRow.holds Tryz.pinned (OpenSpec.ofChange interpNoneWrong)

/- THE SECOND FORM. 'bulk': how many values and letters a reading holds, each counted each time it is reached (what is shared counts as often as it is met; a slice's spare places count too). A statement '..UptoSaid' is the law's where the arguments, and the package variables that the reading takes, are together of bulk at most 1048576: NARROWER than '..Said'. Prove '..Said' where nothing that the law and all that it calls make is longer than what came in: it says more and counts as full. Else prove '..UptoSaid'. A law counts once. -/
mutual
def uptoBulk {H : Type} : DataW H → Nat
  | .lit (.string bytes) => bytes.length + 1
  | .lit _ => 1
  | .nil => 1
  | .ptr d => uptoBulk d + 1
  | .slice elems spare => uptoBulkAll elems + uptoBulkAll spare + 1
  | .agg parts => uptoBulkAll parts + 1
  | .iface _ d => uptoBulk d + 1
  | .map entries => uptoBulkEntries entries + 1
  | .held _ => 1
def uptoBulkAll {H : Type} : List (DataW H) → Nat
  | [] => 0
  | d :: r => uptoBulk d + uptoBulkAll r
def uptoBulkEntries {H : Type} : List (Lit × DataW H) → Nat
  | [] => 0
  | x :: r => uptoBulkEntry x + uptoBulkEntries r
def uptoBulkEntry {H : Type} : Lit × DataW H → Nat
  | (.string bytes, d) => bytes.length + uptoBulk d + 1
  | (_, d) => uptoBulk d + 1
 end
def uptoSmall : (H : Type) → List (DataW H) → Bool := fun _ ds => decide (uptoBulkAll ds ≤ 1048576)
def OpenSpec.upto (s : _root_.Go.ChangeSpec) : _root_.Go.OpenSpec := { _root_.Go.OpenSpec.ofChange s with cond := some uptoSmall }

/-- 'braidlaw12.InterpNone', WHERE WHAT IT READS IS OF BULK AT MOST 1048576: true; the input reads as it did. -/
def interpNoneUptoRow : OpenClaim := { program := "ytlghfnpaajgneaagreatdoor", sum := "8936696689ba6ba77e8206ca2aaa82c192d5d0f6251853a9022011d08d3eaf5f", func := "braid/braidlaw12.InterpNone", spec := "interpNone", unfollowed := true, recurses := true, named := ["braid/cm.traits"], apart := false, laid := [("braid/cm.traits", laid_braid_cm_traits)], narrowed := true }
def InterpNoneUptoSaid : Prop := interpNoneUptoRow.holds Tryz.pinned (OpenSpec.upto interpNoneSpec)

end Rows
end Go.Proofs.YtlghfnpaajgneaaGreatDoor
