import Derived.Test.YtdmfkepnopppaaaGreatDoorLgF
namespace Go.Proofs.YtdmfkepnopppaaaGreatDoor
open Go.RowKit
attribute [local go_sem] Oper.semAt_some run_store_nf run_store_f
theorem iRn : (Tryz.prog.info? 67).map (·.size) = some 11 := by kernel_rfl
end Go.Proofs.YtdmfkepnopppaaaGreatDoor
