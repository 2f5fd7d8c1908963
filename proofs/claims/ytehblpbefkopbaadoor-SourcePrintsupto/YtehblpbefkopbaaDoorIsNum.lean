import Derived.Test.YtehblpbefkopbaaDoorParse
namespace Go.Proofs.YtehblpbefkopbaaDoor
open Go.ChangeShapes Go.WideShapes Go.ChangeAt Go.RowKit

theorem retB {a b : Bool} (h : a = b) : Ending.returned (.bool a) = .returned (.bool b) := by rw [h]
end Go.Proofs.YtehblpbefkopbaaDoor
