import Derived.Test.YtclednbclgkdaaaGreatDoorPlain
import Derived.Test.YtclednbclgkdaaaGreatDoorRows
import Derived.OpenShut
import Derived.WalkLawsBesides
namespace Go.Proofs.YtclednbclgkdaaaGreatDoor
open Go.ChangeShapes Go.WideShapes Go.ChangeAt Go.RowKit

/-- Whether two numbers stand in a relation. -/
def hl (rel a b : Int) : Bool :=
  if rel = 1 then a == b else if rel = 2 then a != b else if rel = 3 then decide (a < b) else if rel = 4 then decide (a ≤ b) else if rel = 5 then decide (b < a) else if rel = 6 then decide (b ≤ a) else false
/-- The error beside it. -/
def he (rel : Int) : Int := if 1 ≤ rel ∧ rel ≤ 6 then 0 else 11

theorem holds_any (rel a b : Int) (w : World) :
    Calls Tryz.prog 48 #[.int .i64 rel, .int .i64 a, .int .i64 b] w fun e w' => e = .returned (.tuple #[.bool (hl rel a b), .int .i64 (he rel)]) ∧ w' = w := by
  by_cases h1 : rel = 1
  · subst h1
    go_enter Tryz.func48, Tryz.ntmps48
    go_wp2
    go_ret2
    exact ⟨rfl, rfl⟩
  by_cases h2 : rel = 2
  · subst h2
    go_enter Tryz.func48, Tryz.ntmps48
    go_wp2
    go_ret2
    exact ⟨rfl, rfl⟩
  by_cases h3 : rel = 3
  · subst h3
    go_enter Tryz.func48, Tryz.ntmps48
    go_wp2
    go_ret2
    exact ⟨rfl, rfl⟩
  by_cases h4 : rel = 4
  · subst h4
    go_enter Tryz.func48, Tryz.ntmps48
    go_wp2
    go_ret2
    exact ⟨rfl, rfl⟩
  by_cases h5 : rel = 5
  · subst h5
    go_enter Tryz.func48, Tryz.ntmps48
    go_wp2
    go_ret2
    exact ⟨rfl, rfl⟩
  by_cases h6 : rel = 6
  · subst h6
    go_enter Tryz.func48, Tryz.ntmps48
    go_wp2
    go_ret2
    exact ⟨rfl, rfl⟩
  have e1 : hl rel a b = false := by unfold hl; rw [if_neg h1, if_neg h2, if_neg h3, if_neg h4, if_neg h5, if_neg h6]
  have e2 : he rel = 11 := by unfold he; rw [if_neg (by omega)]
  rw [e1, e2]
  clear e1 e2
  have k1 : (rel == 1) = false := by simp [h1]
  have k2 : (rel == 2) = false := by simp [h2]
  have k3 : (rel == 3) = false := by simp [h3]
  have k4 : (rel == 4) = false := by simp [h4]
  have k5 : (rel == 5) = false := by simp [h5]
  have k6 : (rel == 6) = false := by simp [h6]
  clear h1 h2 h3 h4 h5 h6
  go_enter Tryz.func48, Tryz.ntmps48
  go_wp2
  go_ret2
  exact ⟨rfl, rfl⟩
end Go.Proofs.YtclednbclgkdaaaGreatDoor
