import Derived.Test.YtanmpioplckgbaaDoorSatFacts
import Derived.Test.YtanmpioplckgbaaDoorRows
import Derived.OpenShut
import Derived.WalkLawsBesides
namespace Go.Proofs.YtanmpioplckgbaaDoor
open Go.ChangeShapes Go.WideShapes Go.ChangeAt Go.RowKit

theorem size_neg {a : Int} (h : a < 0) (h1 : -9223372036854775808 ≤ a) : -(a + 1) + 1 = mag a := by unfold mag; omega
theorem size_any (a : Int) (ha : In64 a) (w : World) :
    Calls Tryd.prog 48 #[.int .i64 a] w fun e w' => e = .returned (.int .u64 (mag a)) ∧ w' = w := by
  obtain ⟨h1, h2⟩ := ha
  by_cases c1 : a < 0
  · rw [← size_neg c1 h1]
    go_enter Tryd.func48, Tryd.ntmps48
    go_wp2
    go_ret
    exact ⟨rfl, rfl⟩
  · rw [← mag_pos (show 0 ≤ a by omega)]
    go_enter Tryd.func48, Tryd.ntmps48
    go_wp2
    go_ret
    exact ⟨rfl, rfl⟩
end Go.Proofs.YtanmpioplckgbaaDoor
