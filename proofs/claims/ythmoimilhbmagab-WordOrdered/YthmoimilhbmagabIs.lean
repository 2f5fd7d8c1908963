import Derived.Test.YthmoimilhbmagabHolds
import Derived.Test.YthmoimilhbmagabFacts
namespace Go.Proofs.Ythmoimilhbmagab
open Go.ChangeShapes Go.WideShapes Go.ChangeAt Go.RowKit
theorem is_any (p : Option Addr) (rel a b : Int) (h : he rel = 0) (w : World) :
    Calls Try.prog 13 #[.pointer p, .int .i64 rel, .int .i64 a, .int .i64 b] w fun e w' => e = .returned (.bool (hl rel a b)) ∧ w' = w := by
  go_enter Try.func13, Try.ntmps13
  go_wp2_with (go_at_call 22; refine (holds_any _ _ _ _).mono ?_; rintro e w' ⟨rfl, rfl⟩)
  go_ret
  exact ⟨rfl, rfl⟩
end Go.Proofs.Ythmoimilhbmagab
