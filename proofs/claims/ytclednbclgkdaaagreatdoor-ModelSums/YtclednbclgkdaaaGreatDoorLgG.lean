import Derived.Test.YtclednbclgkdaaaGreatDoorLgF
namespace Go.Proofs.YtclednbclgkdaaaGreatDoor
open Go.RowKit
attribute [local go_sem] Oper.semAt_some run_store_nf run_store_f
end Go.Proofs.YtclednbclgkdaaaGreatDoor
