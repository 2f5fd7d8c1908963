import Derived.Test.YthmlppepgcjfgaaGrD
import Derived.Deep.OwnRows
namespace Go.Proofs.Ythmlppepgcjfgaa
open Go.RowKit Go.Deep
attribute [local go_sem] Oper.semAt_some run_store_nf run_store_f
theorem bInfo : (Try.prog.info? 4).map (fun i => (i.zero, i.size, i.bytes)) = some (some (.bool false), 1, 1) := by kernel_rfl
/-- What reaches answers. -/
def RcP (g : List Eg) (u b : Nat) (w : World) (e : Ending) (w' : World) : Prop := ∃ x : Bool, e = .returned (.bool x) ∧ (x = true ↔ Rch g u b) ∧ Keeps (fun _ => False) w w'
theorem CL.more {w : World} {b : Nat} {v : Value} (h : CL w b [v]) (o : Obj) : CL (w.alloc o) b [v] := h.alloc (by show 0 < 1; decide) o
theorem CL.stays {w w' : World} {b : Nat} {v : Value} {S : Nat → Prop} (h : CL w b [v]) (k : Keeps S w w') (hS : ¬ S b) : CL w' b [v] := h.keep (by show 0 < 1; decide) k hS
end Go.Proofs.Ythmlppepgcjfgaa
