/-
  NARROWER THAN 'FOR EVERY INPUT', by the rows' own cells (each row's printed sentence says how): LangWalks: laid.
  DERIVED. THE GIVEN ROWS OF THIS SEAT. 1 by the template 'for every input the law returns true; each argument reads behind the call as it read before'; 0 by the template 'total and deterministic' (their statements: YtbnbalpdlgkhdaaDoorTotals.lean).
  GIVEN WITH THE SEED: the statements are not yours to turn. If you find one false, say at which input.
  Laid BY PROGRAM, IN A SANDBOX (cutbox-rows.mjs): the forced cells as the released guide's own fill.sh prints them over the translation 60e87fc54e8fc5f9… (all of the seat's roots in one cut). By AI agents, Wed Nov 11 2026. No macro, syntax, notation, axiom, sorry.
-/
import Derived.Test.YtbnbalpdlgkhdaaDoorChecked
import GoSem.Claim
import GoSem.ClaimJoined
import GoSem.ClaimMapViews
import Derived.JoinedTies
import Derived.KernelRfl
namespace Go.Proofs.YtbnbalpdlgkhdaaDoor
/- THE CELL 'sum', in the pinned program and in every row, IS THE sha256 OF THE DUMP (.gsa) THAT YtbnbalpdlgkhdaaDoorProg.lean LOADS. Nothing in Lean hashes anything: it is a label: what it is worth is what the hold of that sum in a sandbox is worth. -/
noncomputable def Tryd.pinned : Pinned := { name := "ytbnbalpdlgkhdaadoor", sum := "60e87fc54e8fc5f9b226efe3412eaf0765e1ba93bd1dbe7636da569a0f7f5ab6", checked := Tryd.checked }
namespace Rows
def none {H : Type} : Left H := { results := [], args := [] }

/- WHAT THE LISTED PACKAGE-LEVEL VARIABLES READ AS WHEN THE CALL BEGINS. Each datum BY PROGRAM (the guide's laid-datum.mjs) off the statement by which the dump's own 'gosem.cut.vars' lays the variable. In a bare row this is a premise. The card (YtbnbalpdlgkhdaaDoorCards.lean) ties it to the program's text. -/
def laid_braid_word_opNames {H : Type} : DataW H := .agg [.lit (.string []), .lit (.string [97, 100, 100]), .lit (.string [115, 117, 98]), .lit (.string [109, 117, 108]), .lit (.string [100, 105, 118]), .lit (.string [114, 101, 109]), .lit (.string [97, 110, 100]), .lit (.string [111, 114]), .lit (.string [120, 111, 114]), .lit (.string [115, 104, 108]), .lit (.string [115, 104, 114]), .lit (.string [109, 105, 110]), .lit (.string [109, 97, 120])]
def laid_braid_word_relNames {H : Type} : DataW H := .agg [.lit (.string []), .lit (.string [61, 61]), .lit (.string [33, 61]), .lit (.string [60]), .lit (.string [60, 61]), .lit (.string [62]), .lit (.string [62, 61])]
def laid_braid_lang_shapes {H : Type} : DataW H := .agg [.agg [.lit (.string []), .nil], .agg [.lit (.string [103, 101, 116]), .slice [.lit (.int .i64 1), .lit (.int .i64 2)] []], .agg [.lit (.string [116, 97, 107, 101]), .slice [.lit (.int .i64 1), .lit (.int .i64 2)] []], .agg [.lit (.string [112, 117, 116]), .slice [.lit (.int .i64 2), .lit (.int .i64 3)] []], .agg [.lit (.string [100, 114, 111, 112]), .slice [.lit (.int .i64 2)] []], .agg [.lit (.string [108, 101, 116]), .slice [.lit (.int .i64 1), .lit (.int .i64 3)] []], .agg [.lit (.string []), .slice [.lit (.int .i64 1), .lit (.int .i64 3), .lit (.int .i64 4)] []], .agg [.lit (.string [105, 102]), .slice [.lit (.int .i64 3), .lit (.int .i64 5), .lit (.int .i64 4), .lit (.int .i64 6)] []], .agg [.lit (.string [103, 111, 116, 111]), .slice [.lit (.int .i64 6)] []], .agg [.lit (.string [113, 117, 105, 116]), .nil], .agg [.lit (.string [100, 111, 110, 101]), .slice [.lit (.int .i64 3)] []]]

/-- 'braidlaw10.LangWalks': WHATEVER THE INPUT: true; the input reads as it did. -/
def langWalksSpec : ChangeSpec := { name := "langWalks", fn := fun _ => fun
  | [d] => { results := [.lit (.bool true)], args := [d] }
  | _ => none }
def langWalksRow : OpenClaim := { program := "ytbnbalpdlgkhdaadoor", sum := "60e87fc54e8fc5f9b226efe3412eaf0765e1ba93bd1dbe7636da569a0f7f5ab6", func := "braid/braidlaw10.LangWalks", spec := "langWalks", recurses := true, named := ["braid/lang.shapes", "braid/word.opNames", "braid/word.relNames"], apart := false, laid := [("braid/word.opNames", laid_braid_word_opNames), ("braid/word.relNames", laid_braid_word_relNames), ("braid/lang.shapes", laid_braid_lang_shapes)] }
def LangWalksSaid : Prop := langWalksRow.holds Tryd.pinned (OpenSpec.ofChange langWalksSpec)

/-- ITS FALSE NEIGHBOUR: 'it returns false'. Refute it at one input. -/
def langWalksWrong : ChangeSpec := { name := "langWalks", fn := fun _ => fun
  | [d] => { results := [.lit (.bool false)], args := [d] }
  | _ => none }
def LangWalksWrongFalsely : Prop := langWalksRow.holds Tryd.pinned (OpenSpec.ofChange langWalksWrong)

/- THE SECOND FORM. 'bulk': how many values and letters a reading holds, each counted each time it is reached (what is shared counts as often as it is met; a slice's spare places count too). A statement '..UptoSaid' is the law's where the arguments, and the package variables that the reading takes, are together of bulk at most 1048576: NARROWER than '..Said'. Prove '..Said' where nothing that the law and all that it calls make is longer than what came in: it says more and counts as full. Else prove '..UptoSaid'. A law counts once. -/
mutual
def uptoBulk {H : Type} : DataW H → Nat
  | .lit (.string bytes) => bytes.length + 1
  | .lit _ => 1
  | .nil => 1
  | .ptr d => uptoBulk d + 1
  | .slice elems spare => uptoBulkAll elems + uptoBulkAll spare + 1
  | .agg parts => uptoBulkAll parts + 1
  | .iface _ d => uptoBulk d + 1
  | .map entries => uptoBulkEntries entries + 1
  | .held _ => 1
def uptoBulkAll {H : Type} : List (DataW H) → Nat
  | [] => 0
  | d :: r => uptoBulk d + uptoBulkAll r
def uptoBulkEntries {H : Type} : List (Lit × DataW H) → Nat
  | [] => 0
  | x :: r => uptoBulkEntry x + uptoBulkEntries r
def uptoBulkEntry {H : Type} : Lit × DataW H → Nat
  | (.string bytes, d) => bytes.length + uptoBulk d + 1
  | (_, d) => uptoBulk d + 1
 end
def uptoSmall : (H : Type) → List (DataW H) → Bool := fun _ ds => decide (uptoBulkAll ds ≤ 1048576)
def OpenSpec.upto (s : _root_.Go.ChangeSpec) : _root_.Go.OpenSpec := { _root_.Go.OpenSpec.ofChange s with cond := some uptoSmall }

/-- 'braidlaw10.LangWalks', WHERE WHAT IT READS IS OF BULK AT MOST 1048576: true; the input reads as it did. -/
def langWalksUptoRow : OpenClaim := { program := "ytbnbalpdlgkhdaadoor", sum := "60e87fc54e8fc5f9b226efe3412eaf0765e1ba93bd1dbe7636da569a0f7f5ab6", func := "braid/braidlaw10.LangWalks", spec := "langWalks", recurses := true, named := ["braid/lang.shapes", "braid/word.opNames", "braid/word.relNames"], apart := false, laid := [("braid/word.opNames", laid_braid_word_opNames), ("braid/word.relNames", laid_braid_word_relNames), ("braid/lang.shapes", laid_braid_lang_shapes)], narrowed := true }
def LangWalksUptoSaid : Prop := langWalksUptoRow.holds Tryd.pinned (OpenSpec.upto langWalksSpec)

end Rows
end Go.Proofs.YtbnbalpdlgkhdaaDoor
