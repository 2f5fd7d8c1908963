import Derived.Test.YtclednbclgkdaaaDoorLgF
namespace Go.Proofs.YtclednbclgkdaaaDoor
open Go.RowKit
attribute [local go_sem] Oper.semAt_some run_store_nf run_store_f
theorem iRn : (Tryd.prog.info? 42).map (·.size) = some 11 := by kernel_rfl
end Go.Proofs.YtclednbclgkdaaaDoor
