import Derived.Test.YtmcchconnfoffabSatFacts
import Derived.Test.YtmcchconnfoffabRows
import Derived.OpenShut
import Derived.WalkLawsBesides
namespace Go.Proofs.Ytmcchconnfoffab
open Go.ChangeShapes Go.WideShapes Go.ChangeAt Go.RowKit

theorem satAdd_any (a b : Int) (ha : In64 a) (hb : In64 b) (w : World) :
    Calls Try.prog 54 #[.int .i64 a, .int .i64 b] w fun e w' => e = .returned (.int .i64 (clamp (a + b))) ∧ w' = w := by
  obtain ⟨h1, h2⟩ := ha
  obtain ⟨h3, h4⟩ := hb
  by_cases c1 : 0 < a
  · by_cases c2 : 9223372036854775807 - a < b
    · rw [← clamp_hi (show 9223372036854775807 ≤ a + b by omega)]
      go_enter Try.func54, Try.ntmps54
      go_wp2
      go_ret
      exact ⟨rfl, rfl⟩
    · rw [← clamp_in rfl (show -9223372036854775808 ≤ a + b by omega) (by omega)]
      go_enter Try.func54, Try.ntmps54
      go_wp2
      go_ret
      exact ⟨rfl, rfl⟩
  · by_cases c3 : a < 0
    · by_cases c2 : b < -9223372036854775808 - a
      · rw [← clamp_lo (show a + b ≤ -9223372036854775808 by omega)]
        go_enter Try.func54, Try.ntmps54
        go_wp2
        go_ret
        exact ⟨rfl, rfl⟩
      · rw [← clamp_in rfl (show -9223372036854775808 ≤ a + b by omega) (by omega)]
        go_enter Try.func54, Try.ntmps54
        go_wp2
        go_ret
        exact ⟨rfl, rfl⟩
    · rw [← clamp_in rfl (show -9223372036854775808 ≤ a + b by omega) (by omega)]
      go_enter Try.func54, Try.ntmps54
      go_wp2
      go_ret
      exact ⟨rfl, rfl⟩

end Go.Proofs.Ytmcchconnfoffab
