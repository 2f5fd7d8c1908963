/-
  No cell of these rows narrows 'for every input' (looked for: loops, veiled, ifaces, maps, wideKeys, modest, calm, conditions, laid).
  DERIVED. THE GIVEN ROWS OF THIS SEAT. 4 by the template 'for every input the law returns true; each argument reads behind the call as it read before'; 0 by the template 'total and deterministic' (their statements: YtmcchconnfoffaaTotals.lean).
  GIVEN WITH THE SEED: the statements are not yours to turn. If you find one false, say at which input.
  Laid BY PROGRAM, IN A SANDBOX (cutbox-rows.mjs): the forced cells as the released guide's own fill.sh prints them over the translation d59ed3d27b62f6b6… (all of the seat's roots in one cut). By AI agents, Wed Nov 11 2026. No macro, syntax, notation, axiom, sorry.
-/
import Derived.Test.YtmcchconnfoffaaChecked
import GoSem.Claim
import GoSem.ClaimJoined
import GoSem.ClaimMapViews
import Derived.JoinedTies
import Derived.KernelRfl
namespace Go.Proofs.Ytmcchconnfoffaa
/- THE CELL 'sum', in the pinned program and in every row, IS THE sha256 OF THE DUMP (.gsa) THAT YtmcchconnfoffaaProg.lean LOADS. Nothing in Lean hashes anything: it is a label: what it is worth is what the hold of that sum in a sandbox is worth. -/
noncomputable def Try.pinned : Pinned := { name := "ytmcchconnfoffaa", sum := "d59ed3d27b62f6b6d242d5cec38ab15ae3709dafb2df6605b76510617021e16d", checked := Try.checked }
namespace Rows
def none {H : Type} : Left H := { results := [], args := [] }

/-- 'braidlaw06.CmMore': WHATEVER THE INPUT: true; the input reads as it did. -/
def cmMoreSpec : ChangeSpec := { name := "cmMore", fn := fun _ => fun
  | [d1, d2, d3, d4, d5] => { results := [.lit (.bool true)], args := [d1, d2, d3, d4, d5] }
  | _ => none }
def cmMoreRow : OpenClaim := { program := "ytmcchconnfoffaa", sum := "d59ed3d27b62f6b6d242d5cec38ab15ae3709dafb2df6605b76510617021e16d", func := "braid/braidlaw06.CmMore", spec := "cmMore", unfollowed := true, recurses := true, apart := false }
def CmMoreSaid : Prop := cmMoreRow.holds Try.pinned (OpenSpec.ofChange cmMoreSpec)

/-- ITS FALSE NEIGHBOUR: 'it returns false'. Refute it at one input. -/
def cmMoreWrong : ChangeSpec := { name := "cmMore", fn := fun _ => fun
  | [d1, d2, d3, d4, d5] => { results := [.lit (.bool false)], args := [d1, d2, d3, d4, d5] }
  | _ => none }
def CmMoreWrongFalsely : Prop := cmMoreRow.holds Try.pinned (OpenSpec.ofChange cmMoreWrong)

/-- 'braidlaw06.CmReach': WHATEVER THE INPUT: true; the input reads as it did. -/
def cmReachSpec : ChangeSpec := { name := "cmReach", fn := fun _ => fun
  | [d] => { results := [.lit (.bool true)], args := [d] }
  | _ => none }
def cmReachRow : OpenClaim := { program := "ytmcchconnfoffaa", sum := "d59ed3d27b62f6b6d242d5cec38ab15ae3709dafb2df6605b76510617021e16d", func := "braid/braidlaw06.CmReach", spec := "cmReach", unfollowed := true, recurses := true, apart := false }
def CmReachSaid : Prop := cmReachRow.holds Try.pinned (OpenSpec.ofChange cmReachSpec)

/-- ITS FALSE NEIGHBOUR: 'it returns false'. Refute it at one input. -/
def cmReachWrong : ChangeSpec := { name := "cmReach", fn := fun _ => fun
  | [d] => { results := [.lit (.bool false)], args := [d] }
  | _ => none }
def CmReachWrongFalsely : Prop := cmReachRow.holds Try.pinned (OpenSpec.ofChange cmReachWrong)

/-- 'braidlaw06.CmEnds': WHATEVER THE INPUT: true; the input reads as it did. -/
def cmEndsSpec : ChangeSpec := { name := "cmEnds", fn := fun _ => fun
  | [d1, d2, d3] => { results := [.lit (.bool true)], args := [d1, d2, d3] }
  | _ => none }
def cmEndsRow : OpenClaim := { program := "ytmcchconnfoffaa", sum := "d59ed3d27b62f6b6d242d5cec38ab15ae3709dafb2df6605b76510617021e16d", func := "braid/braidlaw06.CmEnds", spec := "cmEnds", unfollowed := true, recurses := true, apart := false }
def CmEndsSaid : Prop := cmEndsRow.holds Try.pinned (OpenSpec.ofChange cmEndsSpec)

/-- ITS FALSE NEIGHBOUR: 'it returns false'. Refute it at one input. -/
def cmEndsWrong : ChangeSpec := { name := "cmEnds", fn := fun _ => fun
  | [d1, d2, d3] => { results := [.lit (.bool false)], args := [d1, d2, d3] }
  | _ => none }
def CmEndsWrongFalsely : Prop := cmEndsRow.holds Try.pinned (OpenSpec.ofChange cmEndsWrong)

/-- 'braidlaw06.CmPatient': WHATEVER THE INPUT: true; the input reads as it did. -/
def cmPatientSpec : ChangeSpec := { name := "cmPatient", fn := fun _ => fun
  | [d1, d2, d3] => { results := [.lit (.bool true)], args := [d1, d2, d3] }
  | _ => none }
def cmPatientRow : OpenClaim := { program := "ytmcchconnfoffaa", sum := "d59ed3d27b62f6b6d242d5cec38ab15ae3709dafb2df6605b76510617021e16d", func := "braid/braidlaw06.CmPatient", spec := "cmPatient", unfollowed := true, recurses := true, apart := false }
def CmPatientSaid : Prop := cmPatientRow.holds Try.pinned (OpenSpec.ofChange cmPatientSpec)

/-- ITS FALSE NEIGHBOUR: 'it returns false'. Refute it at one input. -/
def cmPatientWrong : ChangeSpec := { name := "cmPatient", fn := fun _ => fun
  | [d1, d2, d3] => { results := [.lit (.bool false)], args := [d1, d2, d3] }
  | _ => none }
def CmPatientWrongFalsely : Prop := cmPatientRow.holds Try.pinned (OpenSpec.ofChange cmPatientWrong)

/- THE SECOND FORM. 'bulk': how many values and letters a reading holds, each counted each time it is reached (what is shared counts as often as it is met; a slice's spare places count too). A statement '..UptoSaid' is the law's where the arguments, and the package variables that the reading takes, are together of bulk at most 1048576: NARROWER than '..Said'. Prove '..Said' where nothing that the law and all that it calls make is longer than what came in: it says more and counts as full. Else prove '..UptoSaid'. A law counts once. -/
mutual
def uptoBulk {H : Type} : DataW H → Nat
  | .lit (.string bytes) => bytes.length + 1
  | .lit _ => 1
  | .nil => 1
  | .ptr d => uptoBulk d + 1
  | .slice elems spare => uptoBulkAll elems + uptoBulkAll spare + 1
  | .agg parts => uptoBulkAll parts + 1
  | .iface _ d => uptoBulk d + 1
  | .map entries => uptoBulkEntries entries + 1
  | .held _ => 1
def uptoBulkAll {H : Type} : List (DataW H) → Nat
  | [] => 0
  | d :: r => uptoBulk d + uptoBulkAll r
def uptoBulkEntries {H : Type} : List (Lit × DataW H) → Nat
  | [] => 0
  | x :: r => uptoBulkEntry x + uptoBulkEntries r
def uptoBulkEntry {H : Type} : Lit × DataW H → Nat
  | (.string bytes, d) => bytes.length + uptoBulk d + 1
  | (_, d) => uptoBulk d + 1
 end
def uptoSmall : (H : Type) → List (DataW H) → Bool := fun _ ds => decide (uptoBulkAll ds ≤ 1048576)
def OpenSpec.upto (s : _root_.Go.ChangeSpec) : _root_.Go.OpenSpec := { _root_.Go.OpenSpec.ofChange s with cond := some uptoSmall }

/-- 'braidlaw06.CmMore', WHERE WHAT IT READS IS OF BULK AT MOST 1048576: true; the input reads as it did. -/
def cmMoreUptoRow : OpenClaim := { program := "ytmcchconnfoffaa", sum := "d59ed3d27b62f6b6d242d5cec38ab15ae3709dafb2df6605b76510617021e16d", func := "braid/braidlaw06.CmMore", spec := "cmMore", unfollowed := true, recurses := true, apart := false, narrowed := true }
def CmMoreUptoSaid : Prop := cmMoreUptoRow.holds Try.pinned (OpenSpec.upto cmMoreSpec)

/-- 'braidlaw06.CmReach', WHERE WHAT IT READS IS OF BULK AT MOST 1048576: true; the input reads as it did. -/
def cmReachUptoRow : OpenClaim := { program := "ytmcchconnfoffaa", sum := "d59ed3d27b62f6b6d242d5cec38ab15ae3709dafb2df6605b76510617021e16d", func := "braid/braidlaw06.CmReach", spec := "cmReach", unfollowed := true, recurses := true, apart := false, narrowed := true }
def CmReachUptoSaid : Prop := cmReachUptoRow.holds Try.pinned (OpenSpec.upto cmReachSpec)

/-- 'braidlaw06.CmEnds', WHERE WHAT IT READS IS OF BULK AT MOST 1048576: true; the input reads as it did. -/
def cmEndsUptoRow : OpenClaim := { program := "ytmcchconnfoffaa", sum := "d59ed3d27b62f6b6d242d5cec38ab15ae3709dafb2df6605b76510617021e16d", func := "braid/braidlaw06.CmEnds", spec := "cmEnds", unfollowed := true, recurses := true, apart := false, narrowed := true }
def CmEndsUptoSaid : Prop := cmEndsUptoRow.holds Try.pinned (OpenSpec.upto cmEndsSpec)

/-- 'braidlaw06.CmPatient', WHERE WHAT IT READS IS OF BULK AT MOST 1048576: true; the input reads as it did. -/
def cmPatientUptoRow : OpenClaim := { program := "ytmcchconnfoffaa", sum := "d59ed3d27b62f6b6d242d5cec38ab15ae3709dafb2df6605b76510617021e16d", func := "braid/braidlaw06.CmPatient", spec := "cmPatient", unfollowed := true, recurses := true, apart := false, narrowed := true }
def CmPatientUptoSaid : Prop := cmPatientUptoRow.holds Try.pinned (OpenSpec.upto cmPatientSpec)

end Rows
end Go.Proofs.Ytmcchconnfoffaa
