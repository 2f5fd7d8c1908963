import Derived.Test.YtkfeccocaokdlabDoorLgF
namespace Go.Proofs.YtkfeccocaokdlabDoor
open Go.RowKit
attribute [local go_sem] Oper.semAt_some run_store_nf run_store_f
theorem iRn : (Tryd.prog.info? 27).map (·.size) = some 11 := by kernel_rfl
end Go.Proofs.YtkfeccocaokdlabDoor
