import Derived.Test.YtanmpioplckgbaaDoorParse
namespace Go.Proofs.YtanmpioplckgbaaDoor
open Go.ChangeShapes Go.WideShapes Go.ChangeAt Go.RowKit

theorem retB {a b : Bool} (h : a = b) : Ending.returned (.bool a) = .returned (.bool b) := by rw [h]
end Go.Proofs.YtanmpioplckgbaaDoor
