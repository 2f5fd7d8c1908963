import Derived.Test.YthmoimilhbmagabRefMul
import Derived.Test.YthmoimilhbmagabSatMul
namespace Go.Proofs.Ythmoimilhbmagab
open Go.ChangeShapes Go.WideShapes Go.ChangeAt Go.RowKit
set_option maxHeartbeats 1000000 in
theorem stops_walk (a b : Int) (ha : In64 a) (hb : In64 b) (w : World) :
    Calls Try.prog 7 #[.int .i64 a, .int .i64 b] w fun e w' => e = .returned (.bool true) ∧ Below w.heap.size w w' := by
  have f1 : (clamp (2 + 3) != 5) = false := by decide +kernel
  have f2 : (clamp (2 * 3) != 6) = false := by decide +kernel
  have i2 : In64 2 := by unfold In64; omega
  have i3 : In64 3 := by unfold In64; omega
  go_enter Try.func7, Try.ntmps7
  go_wp2_with (first | (go_at_call 15; refine (satAdd_any _ _ (by assumption) (by assumption) _).mono ?_; rintro e w' ⟨rfl, rfl⟩) | (go_at_call 16; refine (satMul_any _ _ (by assumption) (by assumption) _).mono ?_; rintro e w' ⟨rfl, rfl⟩) | (go_at_call 20; refine (refSatAdd_any _ _ (by assumption) (by assumption) _).mono ?_; rintro e w' ⟨rfl, rfl⟩) | (go_at_call 21; refine (refSatMul_any _ _ (by assumption) (by assumption) _).mono ?_; rintro e w' ⟨rfl, rfl⟩))
  go_ret
  exact ⟨rfl, Below.refl _ _⟩
end Go.Proofs.Ythmoimilhbmagab
