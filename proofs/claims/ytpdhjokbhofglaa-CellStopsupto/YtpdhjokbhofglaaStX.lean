import Derived.Test.YtpdhjokbhofglaaStW
namespace Go.Proofs.Ytpdhjokbhofglaa
open Go.RowKit Go.Shelf
/-- CellStops, whatever is handed in. -/
theorem stops_any {w : World} {a : Option Addr} {l : List Ac} (hA : AL w a l) (hq : ∀ q ∈ l, q.ok) (hln : l.length ≤ 1048576) (cap : Nat) (fm : Int) (_ : I64 fm) (lv : Int) (_ : I64 lv) (ag : Int) (_ : I64 ag) :
    Calls Try.prog 3 #[.slice a l.length cap, .int .i64 fm, .int .i64 lv, .int .i64 ag] w fun e w' => e = .returned (.bool true) ∧ Below w.heap.size w w' :=
  callsIn_wide.1 (stops_walk hA hq hln cap fm lv ag)
end Go.Proofs.Ytpdhjokbhofglaa
