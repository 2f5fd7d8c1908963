import Derived.Test.YtehblpbefkopbaaDoorXaP
namespace Go.Proofs.YtehblpbefkopbaaDoor
open Go.RowKit Go.ChangeShapes Go.WideShapes Go.ChangeAt Go.Deep
attribute [local go_sem] Oper.semAt_some run_store_nf run_store_f
/-- Statements read behind others. -/
def appR (acc : List St) (x : Except Bs (List St × Bs)) : Except Bs (List St × Bs) := match x with
  | .error E => .error E
  | .ok (l, R) => .ok (acc ++ l, R)
end Go.Proofs.YtehblpbefkopbaaDoor
