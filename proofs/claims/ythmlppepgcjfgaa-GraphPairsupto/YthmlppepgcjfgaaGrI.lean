import Derived.Test.YthmlppepgcjfgaaGrH
namespace Go.Proofs.Ythmlppepgcjfgaa
open Go.RowKit Go.Deep
attribute [local go_sem] Oper.semAt_some run_store_nf run_store_f
theorem el_made (W : World) (l : List Ed) : EL (W.alloc (.cells (ecl l).toArray 34)) (some ⟨W.heap.size, 0, none⟩) l := fun i hi => ⟨_, 0, rfl, fun j v hv => by
  have := (CL.made W (ecl l) 34).c (i * 4 + j) v (ecl_get l i hi j v hv)
  rw [Nat.zero_add]
  exact this⟩
def e10 : Ed := ⟨1, 0, 0, 0⟩
def e01 : Ed := ⟨0, 1, 0, 0⟩
def e12 : Ed := ⟨1, 2, 0, 0⟩
end Go.Proofs.Ythmlppepgcjfgaa
