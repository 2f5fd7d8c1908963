import Derived.Test.YtehblpbefkopbaaDoorXaK
namespace Go.Proofs.YtehblpbefkopbaaDoor
open Go.RowKit Go.ChangeShapes Go.WideShapes Go.ChangeAt Go.Deep
attribute [local go_sem] Oper.semAt_some run_store_nf run_store_f
end Go.Proofs.YtehblpbefkopbaaDoor
