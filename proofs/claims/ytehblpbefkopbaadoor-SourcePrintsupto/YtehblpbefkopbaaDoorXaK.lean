import Derived.Test.YtehblpbefkopbaaDoorXaJ
namespace Go.Proofs.YtehblpbefkopbaaDoor
open Go.RowKit Go.ChangeShapes Go.WideShapes Go.ChangeAt Go.Deep
attribute [local go_sem] Oper.semAt_some run_store_nf run_store_f
theorem prsV_64 (l : Bs) : I64 (prsV l) := by
  unfold prsV I64
  split
  · rename_i h
    have h2 := h.2
    unfold lim at h2
    split <;> rename_i hn
    · rw [if_pos hn] at h2; omega
    · rw [if_neg hn] at h2; omega
  · omega
end Go.Proofs.YtehblpbefkopbaaDoor
