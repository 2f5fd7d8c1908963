/-
  NARROWER THAN 'FOR EVERY INPUT', by the rows' own cells (each row's printed sentence says how): InterpNone: laid · InterpCarries: laid · InterpSeries: laid · InterpAll: laid · InterpRows: laid · InterpTells: laid.
  DERIVED. THE GIVEN ROWS OF THIS SEAT. 6 by the template 'for every input the law returns true; each argument reads behind the call as it read before'; 0 by the template 'total and deterministic' (their statements: YtjelmhlagpfnhaaGreatDoorTotals.lean).
  GIVEN WITH THE SEED: the statements are not yours to turn. If you find one false, say at which input.
  Laid BY PROGRAM, IN A SANDBOX (cutbox-rows.mjs): the forced cells as the released guide's own fill.sh prints them over the translation 9bd91d59d726de5e… (all of the seat's roots in one cut). By AI agents, Wed Nov 11 2026. No macro, syntax, notation, axiom, sorry.
-/
import Derived.Test.YtjelmhlagpfnhaaGreatDoorChecked
import GoSem.Claim
import GoSem.ClaimJoined
import GoSem.ClaimMapViews
import Derived.JoinedTies
import Derived.KernelRfl
namespace Go.Proofs.YtjelmhlagpfnhaaGreatDoor
/- THE CELL 'sum', in the pinned program and in every row, IS THE sha256 OF THE DUMP (.gsa) THAT YtjelmhlagpfnhaaGreatDoorProg.lean LOADS. Nothing in Lean hashes anything: it is a label: what it is worth is what the hold of that sum in a sandbox is worth. -/
noncomputable def Tryz.pinned : Pinned := { name := "ytjelmhlagpfnhaagreatdoor", sum := "9bd91d59d726de5e3d36d590006a7c9d4ed53fbd1fdd85c7d75e0b272ed7016a", checked := Tryz.checked }
namespace Rows
def none {H : Type} : Left H := { results := [], args := [] }

/- WHAT THE LISTED PACKAGE-LEVEL VARIABLES READ AS WHEN THE CALL BEGINS. Each datum BY PROGRAM (the guide's laid-datum.mjs) off the statement by which the dump's own 'gosem.cut.vars' lays the variable. In a bare row this is a premise. The card (YtjelmhlagpfnhaaGreatDoorCards.lean) ties it to the program's text. -/
def laid_braid_cm_traits {H : Type} : DataW H := .agg [.agg [.lit (.string [112, 111, 108, 105, 116, 101]), .lit (.int .i64 0), .lit (.bool false), .lit (.bool false)], .agg [.lit (.string [107, 97, 114, 109, 97]), .lit (.int .i64 1), .lit (.bool true), .lit (.bool false)], .agg [.lit (.string [112, 111, 108, 107, 97]), .lit (.int .i64 1), .lit (.bool true), .lit (.bool false)], .agg [.lit (.string [103, 114, 101, 101, 100, 121]), .lit (.int .i64 2), .lit (.bool false), .lit (.bool true)], .agg [.lit (.string [111, 114, 97, 99, 108, 101]), .lit (.int .i64 0), .lit (.bool false), .lit (.bool false)]]
def laid_braid_word_opNames {H : Type} : DataW H := .agg [.lit (.string []), .lit (.string [97, 100, 100]), .lit (.string [115, 117, 98]), .lit (.string [109, 117, 108]), .lit (.string [100, 105, 118]), .lit (.string [114, 101, 109]), .lit (.string [97, 110, 100]), .lit (.string [111, 114]), .lit (.string [120, 111, 114]), .lit (.string [115, 104, 108]), .lit (.string [115, 104, 114]), .lit (.string [109, 105, 110]), .lit (.string [109, 97, 120])]
def laid_braid_word_relNames {H : Type} : DataW H := .agg [.lit (.string []), .lit (.string [61, 61]), .lit (.string [33, 61]), .lit (.string [60]), .lit (.string [60, 61]), .lit (.string [62]), .lit (.string [62, 61])]
def laid_braid_lang_shapes {H : Type} : DataW H := .agg [.agg [.lit (.string []), .nil], .agg [.lit (.string [103, 101, 116]), .slice [.lit (.int .i64 1), .lit (.int .i64 2)] []], .agg [.lit (.string [116, 97, 107, 101]), .slice [.lit (.int .i64 1), .lit (.int .i64 2)] []], .agg [.lit (.string [112, 117, 116]), .slice [.lit (.int .i64 2), .lit (.int .i64 3)] []], .agg [.lit (.string [100, 114, 111, 112]), .slice [.lit (.int .i64 2)] []], .agg [.lit (.string [108, 101, 116]), .slice [.lit (.int .i64 1), .lit (.int .i64 3)] []], .agg [.lit (.string []), .slice [.lit (.int .i64 1), .lit (.int .i64 3), .lit (.int .i64 4)] []], .agg [.lit (.string [105, 102]), .slice [.lit (.int .i64 3), .lit (.int .i64 5), .lit (.int .i64 4), .lit (.int .i64 6)] []], .agg [.lit (.string [103, 111, 116, 111]), .slice [.lit (.int .i64 6)] []], .agg [.lit (.string [113, 117, 105, 116]), .nil], .agg [.lit (.string [100, 111, 110, 101]), .slice [.lit (.int .i64 3)] []]]

/-- 'braidlaw12.InterpNone': WHATEVER THE INPUT: true; the input reads as it did. -/
def interpNoneSpec : ChangeSpec := { name := "interpNone", fn := fun _ => fun
  | [] => { results := [.lit (.bool true)], args := [] }
  | _ => none }
def interpNoneRow : OpenClaim := { program := "ytjelmhlagpfnhaagreatdoor", sum := "9bd91d59d726de5e3d36d590006a7c9d4ed53fbd1fdd85c7d75e0b272ed7016a", func := "braid/braidlaw12.InterpNone", spec := "interpNone", unfollowed := true, recurses := true, named := ["braid/cm.traits"], apart := false, laid := [("braid/cm.traits", laid_braid_cm_traits)] }
def InterpNoneSaid : Prop := interpNoneRow.holds Tryz.pinned (OpenSpec.ofChange interpNoneSpec)

/-- ITS FALSE NEIGHBOUR: 'it returns false'. Refute it at one input. -/
def interpNoneWrong : ChangeSpec := { name := "interpNone", fn := fun _ => fun
  | [] => { results := [.lit (.bool false)], args := [] }
  | _ => none }
def InterpNoneWrongFalsely : Prop := interpNoneRow.holds Tryz.pinned (OpenSpec.ofChange interpNoneWrong)

/-- 'braidlaw12.InterpCarries': WHATEVER THE INPUT: true; the input reads as it did. -/
def interpCarriesSpec : ChangeSpec := { name := "interpCarries", fn := fun _ => fun
  | [d1, d2, d3] => { results := [.lit (.bool true)], args := [d1, d2, d3] }
  | _ => none }
def interpCarriesRow : OpenClaim := { program := "ytjelmhlagpfnhaagreatdoor", sum := "9bd91d59d726de5e3d36d590006a7c9d4ed53fbd1fdd85c7d75e0b272ed7016a", func := "braid/braidlaw12.InterpCarries", spec := "interpCarries", unfollowed := true, recurses := true, named := ["braid/lang.shapes", "braid/word.opNames", "braid/word.relNames", "braid/cm.traits"], apart := false, laid := [("braid/word.opNames", laid_braid_word_opNames), ("braid/word.relNames", laid_braid_word_relNames), ("braid/cm.traits", laid_braid_cm_traits), ("braid/lang.shapes", laid_braid_lang_shapes)] }
def InterpCarriesSaid : Prop := interpCarriesRow.holds Tryz.pinned (OpenSpec.ofChange interpCarriesSpec)

/-- ITS FALSE NEIGHBOUR: 'it returns false'. Refute it at one input. -/
def interpCarriesWrong : ChangeSpec := { name := "interpCarries", fn := fun _ => fun
  | [d1, d2, d3] => { results := [.lit (.bool false)], args := [d1, d2, d3] }
  | _ => none }
def InterpCarriesWrongFalsely : Prop := interpCarriesRow.holds Tryz.pinned (OpenSpec.ofChange interpCarriesWrong)

/-- 'braidlaw12.InterpSeries': WHATEVER THE INPUT: true; the input reads as it did. -/
def interpSeriesSpec : ChangeSpec := { name := "interpSeries", fn := fun _ => fun
  | [d1, d2] => { results := [.lit (.bool true)], args := [d1, d2] }
  | _ => none }
def interpSeriesRow : OpenClaim := { program := "ytjelmhlagpfnhaagreatdoor", sum := "9bd91d59d726de5e3d36d590006a7c9d4ed53fbd1fdd85c7d75e0b272ed7016a", func := "braid/braidlaw12.InterpSeries", spec := "interpSeries", unfollowed := true, recurses := true, named := ["braid/lang.shapes", "braid/word.opNames", "braid/word.relNames", "braid/cm.traits"], apart := false, laid := [("braid/word.opNames", laid_braid_word_opNames), ("braid/word.relNames", laid_braid_word_relNames), ("braid/cm.traits", laid_braid_cm_traits), ("braid/lang.shapes", laid_braid_lang_shapes)] }
def InterpSeriesSaid : Prop := interpSeriesRow.holds Tryz.pinned (OpenSpec.ofChange interpSeriesSpec)

/-- ITS FALSE NEIGHBOUR: 'it returns false'. Refute it at one input. -/
def interpSeriesWrong : ChangeSpec := { name := "interpSeries", fn := fun _ => fun
  | [d1, d2] => { results := [.lit (.bool false)], args := [d1, d2] }
  | _ => none }
def InterpSeriesWrongFalsely : Prop := interpSeriesRow.holds Tryz.pinned (OpenSpec.ofChange interpSeriesWrong)

/-- 'braidlaw12.InterpAll': WHATEVER THE INPUT: true; the input reads as it did. -/
def interpAllSpec : ChangeSpec := { name := "interpAll", fn := fun _ => fun
  | [d1, d2, d3] => { results := [.lit (.bool true)], args := [d1, d2, d3] }
  | _ => none }
def interpAllRow : OpenClaim := { program := "ytjelmhlagpfnhaagreatdoor", sum := "9bd91d59d726de5e3d36d590006a7c9d4ed53fbd1fdd85c7d75e0b272ed7016a", func := "braid/braidlaw12.InterpAll", spec := "interpAll", unfollowed := true, recurses := true, named := ["braid/lang.shapes", "braid/word.opNames", "braid/word.relNames", "braid/cm.traits"], apart := false, laid := [("braid/word.opNames", laid_braid_word_opNames), ("braid/word.relNames", laid_braid_word_relNames), ("braid/cm.traits", laid_braid_cm_traits), ("braid/lang.shapes", laid_braid_lang_shapes)] }
def InterpAllSaid : Prop := interpAllRow.holds Tryz.pinned (OpenSpec.ofChange interpAllSpec)

/-- ITS FALSE NEIGHBOUR: 'it returns false'. Refute it at one input. -/
def interpAllWrong : ChangeSpec := { name := "interpAll", fn := fun _ => fun
  | [d1, d2, d3] => { results := [.lit (.bool false)], args := [d1, d2, d3] }
  | _ => none }
def InterpAllWrongFalsely : Prop := interpAllRow.holds Tryz.pinned (OpenSpec.ofChange interpAllWrong)

/-- 'braidlaw12.InterpRows': WHATEVER THE INPUT: true; the input reads as it did. -/
def interpRowsSpec : ChangeSpec := { name := "interpRows", fn := fun _ => fun
  | [d1, d2, d3] => { results := [.lit (.bool true)], args := [d1, d2, d3] }
  | _ => none }
def interpRowsRow : OpenClaim := { program := "ytjelmhlagpfnhaagreatdoor", sum := "9bd91d59d726de5e3d36d590006a7c9d4ed53fbd1fdd85c7d75e0b272ed7016a", func := "braid/braidlaw12.InterpRows", spec := "interpRows", unfollowed := true, recurses := true, named := ["braid/lang.shapes", "braid/word.opNames", "braid/word.relNames", "braid/cm.traits"], apart := false, laid := [("braid/word.opNames", laid_braid_word_opNames), ("braid/word.relNames", laid_braid_word_relNames), ("braid/cm.traits", laid_braid_cm_traits), ("braid/lang.shapes", laid_braid_lang_shapes)] }
def InterpRowsSaid : Prop := interpRowsRow.holds Tryz.pinned (OpenSpec.ofChange interpRowsSpec)

/-- ITS FALSE NEIGHBOUR: 'it returns false'. Refute it at one input. -/
def interpRowsWrong : ChangeSpec := { name := "interpRows", fn := fun _ => fun
  | [d1, d2, d3] => { results := [.lit (.bool false)], args := [d1, d2, d3] }
  | _ => none }
def InterpRowsWrongFalsely : Prop := interpRowsRow.holds Tryz.pinned (OpenSpec.ofChange interpRowsWrong)

/-- 'braidlaw12.InterpTells': WHATEVER THE INPUT: true; the input reads as it did. -/
def interpTellsSpec : ChangeSpec := { name := "interpTells", fn := fun _ => fun
  | [d1, d2, d3] => { results := [.lit (.bool true)], args := [d1, d2, d3] }
  | _ => none }
def interpTellsRow : OpenClaim := { program := "ytjelmhlagpfnhaagreatdoor", sum := "9bd91d59d726de5e3d36d590006a7c9d4ed53fbd1fdd85c7d75e0b272ed7016a", func := "braid/braidlaw12.InterpTells", spec := "interpTells", unfollowed := true, recurses := true, named := ["braid/lang.shapes", "braid/word.opNames", "braid/word.relNames", "braid/cm.traits"], apart := false, laid := [("braid/word.opNames", laid_braid_word_opNames), ("braid/word.relNames", laid_braid_word_relNames), ("braid/cm.traits", laid_braid_cm_traits), ("braid/lang.shapes", laid_braid_lang_shapes)] }
def InterpTellsSaid : Prop := interpTellsRow.holds Tryz.pinned (OpenSpec.ofChange interpTellsSpec)

/-- ITS FALSE NEIGHBOUR: 'it returns false'. Refute it at one input. -/
def interpTellsWrong : ChangeSpec := { name := "interpTells", fn := fun _ => fun
  | [d1, d2, d3] => { results := [.lit (.bool false)], args := [d1, d2, d3] }
  | _ => none }
def InterpTellsWrongFalsely : Prop := interpTellsRow.holds Tryz.pinned (OpenSpec.ofChange interpTellsWrong)

/- THE SECOND FORM. 'bulk': how many values and letters a reading holds, each counted each time it is reached (what is shared counts as often as it is met; a slice's spare places count too). A statement '..UptoSaid' is the law's where the arguments, and the package variables that the reading takes, are together of bulk at most 1048576: NARROWER than '..Said'. Prove '..Said' where nothing that the law and all that it calls make is longer than what came in: it says more and counts as full. Else prove '..UptoSaid'. A law counts once. -/
mutual
def uptoBulk {H : Type} : DataW H → Nat
  | .lit (.string bytes) => bytes.length + 1
  | .lit _ => 1
  | .nil => 1
  | .ptr d => uptoBulk d + 1
  | .slice elems spare => uptoBulkAll elems + uptoBulkAll spare + 1
  | .agg parts => uptoBulkAll parts + 1
  | .iface _ d => uptoBulk d + 1
  | .map entries => uptoBulkEntries entries + 1
  | .held _ => 1
def uptoBulkAll {H : Type} : List (DataW H) → Nat
  | [] => 0
  | d :: r => uptoBulk d + uptoBulkAll r
def uptoBulkEntries {H : Type} : List (Lit × DataW H) → Nat
  | [] => 0
  | x :: r => uptoBulkEntry x + uptoBulkEntries r
def uptoBulkEntry {H : Type} : Lit × DataW H → Nat
  | (.string bytes, d) => bytes.length + uptoBulk d + 1
  | (_, d) => uptoBulk d + 1
 end
def uptoSmall : (H : Type) → List (DataW H) → Bool := fun _ ds => decide (uptoBulkAll ds ≤ 1048576)
def OpenSpec.upto (s : _root_.Go.ChangeSpec) : _root_.Go.OpenSpec := { _root_.Go.OpenSpec.ofChange s with cond := some uptoSmall }

/-- 'braidlaw12.InterpNone', WHERE WHAT IT READS IS OF BULK AT MOST 1048576: true; the input reads as it did. -/
def interpNoneUptoRow : OpenClaim := { program := "ytjelmhlagpfnhaagreatdoor", sum := "9bd91d59d726de5e3d36d590006a7c9d4ed53fbd1fdd85c7d75e0b272ed7016a", func := "braid/braidlaw12.InterpNone", spec := "interpNone", unfollowed := true, recurses := true, named := ["braid/cm.traits"], apart := false, laid := [("braid/cm.traits", laid_braid_cm_traits)], narrowed := true }
def InterpNoneUptoSaid : Prop := interpNoneUptoRow.holds Tryz.pinned (OpenSpec.upto interpNoneSpec)

/-- 'braidlaw12.InterpCarries', WHERE WHAT IT READS IS OF BULK AT MOST 1048576: true; the input reads as it did. -/
def interpCarriesUptoRow : OpenClaim := { program := "ytjelmhlagpfnhaagreatdoor", sum := "9bd91d59d726de5e3d36d590006a7c9d4ed53fbd1fdd85c7d75e0b272ed7016a", func := "braid/braidlaw12.InterpCarries", spec := "interpCarries", unfollowed := true, recurses := true, named := ["braid/lang.shapes", "braid/word.opNames", "braid/word.relNames", "braid/cm.traits"], apart := false, laid := [("braid/word.opNames", laid_braid_word_opNames), ("braid/word.relNames", laid_braid_word_relNames), ("braid/cm.traits", laid_braid_cm_traits), ("braid/lang.shapes", laid_braid_lang_shapes)], narrowed := true }
def InterpCarriesUptoSaid : Prop := interpCarriesUptoRow.holds Tryz.pinned (OpenSpec.upto interpCarriesSpec)

/-- 'braidlaw12.InterpSeries', WHERE WHAT IT READS IS OF BULK AT MOST 1048576: true; the input reads as it did. -/
def interpSeriesUptoRow : OpenClaim := { program := "ytjelmhlagpfnhaagreatdoor", sum := "9bd91d59d726de5e3d36d590006a7c9d4ed53fbd1fdd85c7d75e0b272ed7016a", func := "braid/braidlaw12.InterpSeries", spec := "interpSeries", unfollowed := true, recurses := true, named := ["braid/lang.shapes", "braid/word.opNames", "braid/word.relNames", "braid/cm.traits"], apart := false, laid := [("braid/word.opNames", laid_braid_word_opNames), ("braid/word.relNames", laid_braid_word_relNames), ("braid/cm.traits", laid_braid_cm_traits), ("braid/lang.shapes", laid_braid_lang_shapes)], narrowed := true }
def InterpSeriesUptoSaid : Prop := interpSeriesUptoRow.holds Tryz.pinned (OpenSpec.upto interpSeriesSpec)

/-- 'braidlaw12.InterpAll', WHERE WHAT IT READS IS OF BULK AT MOST 1048576: true; the input reads as it did. -/
def interpAllUptoRow : OpenClaim := { program := "ytjelmhlagpfnhaagreatdoor", sum := "9bd91d59d726de5e3d36d590006a7c9d4ed53fbd1fdd85c7d75e0b272ed7016a", func := "braid/braidlaw12.InterpAll", spec := "interpAll", unfollowed := true, recurses := true, named := ["braid/lang.shapes", "braid/word.opNames", "braid/word.relNames", "braid/cm.traits"], apart := false, laid := [("braid/word.opNames", laid_braid_word_opNames), ("braid/word.relNames", laid_braid_word_relNames), ("braid/cm.traits", laid_braid_cm_traits), ("braid/lang.shapes", laid_braid_lang_shapes)], narrowed := true }
def InterpAllUptoSaid : Prop := interpAllUptoRow.holds Tryz.pinned (OpenSpec.upto interpAllSpec)

/-- 'braidlaw12.InterpRows', WHERE WHAT IT READS IS OF BULK AT MOST 1048576: true; the input reads as it did. -/
def interpRowsUptoRow : OpenClaim := { program := "ytjelmhlagpfnhaagreatdoor", sum := "9bd91d59d726de5e3d36d590006a7c9d4ed53fbd1fdd85c7d75e0b272ed7016a", func := "braid/braidlaw12.InterpRows", spec := "interpRows", unfollowed := true, recurses := true, named := ["braid/lang.shapes", "braid/word.opNames", "braid/word.relNames", "braid/cm.traits"], apart := false, laid := [("braid/word.opNames", laid_braid_word_opNames), ("braid/word.relNames", laid_braid_word_relNames), ("braid/cm.traits", laid_braid_cm_traits), ("braid/lang.shapes", laid_braid_lang_shapes)], narrowed := true }
def InterpRowsUptoSaid : Prop := interpRowsUptoRow.holds Tryz.pinned (OpenSpec.upto interpRowsSpec)

/-- 'braidlaw12.InterpTells', WHERE WHAT IT READS IS OF BULK AT MOST 1048576: true; the input reads as it did. -/
def interpTellsUptoRow : OpenClaim := { program := "ytjelmhlagpfnhaagreatdoor", sum := "9bd91d59d726de5e3d36d590006a7c9d4ed53fbd1fdd85c7d75e0b272ed7016a", func := "braid/braidlaw12.InterpTells", spec := "interpTells", unfollowed := true, recurses := true, named := ["braid/lang.shapes", "braid/word.opNames", "braid/word.relNames", "braid/cm.traits"], apart := false, laid := [("braid/word.opNames", laid_braid_word_opNames), ("braid/word.relNames", laid_braid_word_relNames), ("braid/cm.traits", laid_braid_cm_traits), ("braid/lang.shapes", laid_braid_lang_shapes)], narrowed := true }
def InterpTellsUptoSaid : Prop := interpTellsUptoRow.holds Tryz.pinned (OpenSpec.upto interpTellsSpec)

end Rows
end Go.Proofs.YtjelmhlagpfnhaaGreatDoor
