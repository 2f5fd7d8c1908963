import Derived.Test.YtniogbghldkmjaaGreatDoorLgF
namespace Go.Proofs.YtniogbghldkmjaaGreatDoor
open Go.RowKit
attribute [local go_sem] Oper.semAt_some run_store_nf run_store_f
theorem iRn : (Tryz.prog.info? 63).map (·.size) = some 11 := by kernel_rfl
end Go.Proofs.YtniogbghldkmjaaGreatDoor
