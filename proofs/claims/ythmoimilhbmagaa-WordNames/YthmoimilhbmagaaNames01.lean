import Derived.Test.YthmoimilhbmagaaDo
import Derived.Test.YthmoimilhbmagaaHolds
namespace Go.Proofs.Ythmoimilhbmagaa
open Go.ChangeShapes Go.WideShapes Go.ChangeAt Go.RowKit

set_option maxHeartbeats 1000000 in
theorem names_walk (w : World) :
    Calls Try.prog 6 #[] w fun e w' => e = .returned (.bool true) ∧ Below w.heap.size w w' := by
  have f0 : (ap 3 3 4 != 12) = false := by decide +kernel
  have f1 : hl 3 3 4 = true := by decide +kernel
  have f2 : he 3 = 0 := by decide +kernel
  have f3 : he 9223372036854775807 = 11 := by decide +kernel
  have hk : Kept w.heap.size w w := ⟨Below.refl _ _, Nat.le_refl _⟩
  go_enter Try.func6, Try.ntmps6
  go_wp2_with fail
  refine (apply_any _ _ _ (by decide) _).mono ?_
  rintro e w1 ⟨rfl, hb1⟩
  replace hk := hk.step hb1
  clear hb1
  go_wp2_with fail
  refine (holds_any _ _ _ _).mono ?_
  rintro e w2 ⟨rfl, rfl⟩
  go_wp2_with fail
  refine (apply_bad _ _ _ (by decide) _).mono ?_
  rintro e w2 ⟨rfl, rfl⟩
  go_wp2_with fail
  refine (holds_any _ _ _ _).mono ?_
  rintro e w2 ⟨rfl, rfl⟩
  go_wp2
  go_ret
  exact ⟨rfl, hk.1⟩
end Go.Proofs.Ythmoimilhbmagaa
