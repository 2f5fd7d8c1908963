import Derived.Test.YthmlppepgcjfgaaGrC
import Derived.WalkMore
import Derived.Scope
import Derived.Deep.LoopGhost
namespace Go.Proofs.Ythmlppepgcjfgaa
open Go.RowKit
attribute [local go_sem] Oper.semAt_some run_store_nf run_store_f
/-- Marks. -/
def mks (M : Nat → Bool) : Nat → Value := fun i => .bool (M i)
/-- What the closure leaves. -/
def RwP (bc n to_ : Nat) (g : List Eg) (node : Nat) (M : Nat → Bool) (w : World) (e : Ending) (w' : World) : Prop := ∃ (b : Bool) (M' : Nat → Bool), e = .returned (.bool b) ∧ Wkd g to_ node M b M' ∧ FB w' (bc + 2) n (mks M') ∧ Keeps (fun i => i = bc + 2) w w'
end Go.Proofs.Ythmlppepgcjfgaa
