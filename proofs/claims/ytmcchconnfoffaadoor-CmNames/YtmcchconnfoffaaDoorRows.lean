/-
  NARROWER THAN 'FOR EVERY INPUT', by the rows' own cells (each row's printed sentence says how): CmNames: laid · CmNone: laid.
  DERIVED. THE GIVEN ROWS OF THIS SEAT. 2 by the template 'for every input the law returns true; each argument reads behind the call as it read before'; 0 by the template 'total and deterministic' (their statements: YtmcchconnfoffaaDoorTotals.lean).
  GIVEN WITH THE SEED: the statements are not yours to turn. If you find one false, say at which input.
  Laid BY PROGRAM, IN A SANDBOX (cutbox-rows.mjs): the forced cells as the released guide's own fill.sh prints them over the translation eb175b6e3c9ee7a5… (all of the seat's roots in one cut). By AI agents, Wed Nov 11 2026. No macro, syntax, notation, axiom, sorry.
-/
import Derived.Test.YtmcchconnfoffaaDoorChecked
import GoSem.Claim
import GoSem.ClaimJoined
import GoSem.ClaimMapViews
import Derived.JoinedTies
import Derived.KernelRfl
namespace Go.Proofs.YtmcchconnfoffaaDoor
/- THE CELL 'sum', in the pinned program and in every row, IS THE sha256 OF THE DUMP (.gsa) THAT YtmcchconnfoffaaDoorProg.lean LOADS. Nothing in Lean hashes anything: it is a label: what it is worth is what the hold of that sum in a sandbox is worth. -/
noncomputable def Tryd.pinned : Pinned := { name := "ytmcchconnfoffaadoor", sum := "eb175b6e3c9ee7a50ffa484d104d25c72dfe392c50da71f15c3476f3cb2ac4cd", checked := Tryd.checked }
namespace Rows
def none {H : Type} : Left H := { results := [], args := [] }

/- WHAT THE LISTED PACKAGE-LEVEL VARIABLES READ AS WHEN THE CALL BEGINS. Each datum BY PROGRAM (the guide's laid-datum.mjs) off the statement by which the dump's own 'gosem.cut.vars' lays the variable. In a bare row this is a premise. The card (YtmcchconnfoffaaDoorCards.lean) ties it to the program's text. -/
def laid_braid_cm_traits {H : Type} : DataW H := .agg [.agg [.lit (.string [112, 111, 108, 105, 116, 101]), .lit (.int .i64 0), .lit (.bool false), .lit (.bool false)], .agg [.lit (.string [107, 97, 114, 109, 97]), .lit (.int .i64 1), .lit (.bool true), .lit (.bool false)], .agg [.lit (.string [112, 111, 108, 107, 97]), .lit (.int .i64 1), .lit (.bool true), .lit (.bool false)], .agg [.lit (.string [103, 114, 101, 101, 100, 121]), .lit (.int .i64 2), .lit (.bool false), .lit (.bool true)], .agg [.lit (.string [111, 114, 97, 99, 108, 101]), .lit (.int .i64 0), .lit (.bool false), .lit (.bool false)]]

/-- 'braidlaw06.CmNames': WHATEVER THE INPUT: true; the input reads as it did. -/
def cmNamesSpec : ChangeSpec := { name := "cmNames", fn := fun _ => fun
  | [d] => { results := [.lit (.bool true)], args := [d] }
  | _ => none }
def cmNamesRow : OpenClaim := { program := "ytmcchconnfoffaadoor", sum := "eb175b6e3c9ee7a50ffa484d104d25c72dfe392c50da71f15c3476f3cb2ac4cd", func := "braid/braidlaw06.CmNames", spec := "cmNames", named := ["braid/cm.traits"], apart := false, laid := [("braid/cm.traits", laid_braid_cm_traits)] }
def CmNamesSaid : Prop := cmNamesRow.holds Tryd.pinned (OpenSpec.ofChange cmNamesSpec)

/-- ITS FALSE NEIGHBOUR: 'it returns false'. Refute it at one input. -/
def cmNamesWrong : ChangeSpec := { name := "cmNames", fn := fun _ => fun
  | [d] => { results := [.lit (.bool false)], args := [d] }
  | _ => none }
def CmNamesWrongFalsely : Prop := cmNamesRow.holds Tryd.pinned (OpenSpec.ofChange cmNamesWrong)

/-- 'braidlaw06.CmNone': WHATEVER THE INPUT: true; the input reads as it did. -/
def cmNoneSpec : ChangeSpec := { name := "cmNone", fn := fun _ => fun
  | [d] => { results := [.lit (.bool true)], args := [d] }
  | _ => none }
def cmNoneRow : OpenClaim := { program := "ytmcchconnfoffaadoor", sum := "eb175b6e3c9ee7a50ffa484d104d25c72dfe392c50da71f15c3476f3cb2ac4cd", func := "braid/braidlaw06.CmNone", spec := "cmNone", unfollowed := true, recurses := true, named := ["braid/cm.traits"], apart := false, laid := [("braid/cm.traits", laid_braid_cm_traits)] }
def CmNoneSaid : Prop := cmNoneRow.holds Tryd.pinned (OpenSpec.ofChange cmNoneSpec)

/-- ITS FALSE NEIGHBOUR: 'it returns false'. Refute it at one input. -/
def cmNoneWrong : ChangeSpec := { name := "cmNone", fn := fun _ => fun
  | [d] => { results := [.lit (.bool false)], args := [d] }
  | _ => none }
def CmNoneWrongFalsely : Prop := cmNoneRow.holds Tryd.pinned (OpenSpec.ofChange cmNoneWrong)

/- THE SECOND FORM. 'bulk': how many values and letters a reading holds, each counted each time it is reached (what is shared counts as often as it is met; a slice's spare places count too). A statement '..UptoSaid' is the law's where the arguments, and the package variables that the reading takes, are together of bulk at most 1048576: NARROWER than '..Said'. Prove '..Said' where nothing that the law and all that it calls make is longer than what came in: it says more and counts as full. Else prove '..UptoSaid'. A law counts once. -/
mutual
def uptoBulk {H : Type} : DataW H → Nat
  | .lit (.string bytes) => bytes.length + 1
  | .lit _ => 1
  | .nil => 1
  | .ptr d => uptoBulk d + 1
  | .slice elems spare => uptoBulkAll elems + uptoBulkAll spare + 1
  | .agg parts => uptoBulkAll parts + 1
  | .iface _ d => uptoBulk d + 1
  | .map entries => uptoBulkEntries entries + 1
  | .held _ => 1
def uptoBulkAll {H : Type} : List (DataW H) → Nat
  | [] => 0
  | d :: r => uptoBulk d + uptoBulkAll r
def uptoBulkEntries {H : Type} : List (Lit × DataW H) → Nat
  | [] => 0
  | x :: r => uptoBulkEntry x + uptoBulkEntries r
def uptoBulkEntry {H : Type} : Lit × DataW H → Nat
  | (.string bytes, d) => bytes.length + uptoBulk d + 1
  | (_, d) => uptoBulk d + 1
 end
def uptoSmall : (H : Type) → List (DataW H) → Bool := fun _ ds => decide (uptoBulkAll ds ≤ 1048576)
def OpenSpec.upto (s : _root_.Go.ChangeSpec) : _root_.Go.OpenSpec := { _root_.Go.OpenSpec.ofChange s with cond := some uptoSmall }

/-- 'braidlaw06.CmNames', WHERE WHAT IT READS IS OF BULK AT MOST 1048576: true; the input reads as it did. -/
def cmNamesUptoRow : OpenClaim := { program := "ytmcchconnfoffaadoor", sum := "eb175b6e3c9ee7a50ffa484d104d25c72dfe392c50da71f15c3476f3cb2ac4cd", func := "braid/braidlaw06.CmNames", spec := "cmNames", named := ["braid/cm.traits"], apart := false, laid := [("braid/cm.traits", laid_braid_cm_traits)], narrowed := true }
def CmNamesUptoSaid : Prop := cmNamesUptoRow.holds Tryd.pinned (OpenSpec.upto cmNamesSpec)

/-- 'braidlaw06.CmNone', WHERE WHAT IT READS IS OF BULK AT MOST 1048576: true; the input reads as it did. -/
def cmNoneUptoRow : OpenClaim := { program := "ytmcchconnfoffaadoor", sum := "eb175b6e3c9ee7a50ffa484d104d25c72dfe392c50da71f15c3476f3cb2ac4cd", func := "braid/braidlaw06.CmNone", spec := "cmNone", unfollowed := true, recurses := true, named := ["braid/cm.traits"], apart := false, laid := [("braid/cm.traits", laid_braid_cm_traits)], narrowed := true }
def CmNoneUptoSaid : Prop := cmNoneUptoRow.holds Tryd.pinned (OpenSpec.upto cmNoneSpec)

end Rows
end Go.Proofs.YtmcchconnfoffaaDoor
