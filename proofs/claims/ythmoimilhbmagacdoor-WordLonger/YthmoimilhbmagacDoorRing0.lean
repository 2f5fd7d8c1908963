import Derived.Test.YthmoimilhbmagacDoorPlain
namespace Go.Proofs.YthmoimilhbmagacDoor
open Go.ChangeShapes Go.WideShapes Go.ChangeAt Go.RowKit

theorem calc_cell (w : World) : (w.alloc (.cells #[.bool false] 32)).cell? ⟨w.heap.size, 0, none⟩ = some (.bool false) := by simp
theorem calc_kept {w w' : World} (h : Kept (w.heap.size + 1) (w.alloc (.cells #[.bool false] 32)) w') : w'.cell? ⟨w.heap.size, 0, none⟩ = some (.bool false) := by
  rw [h.cell (by simp)]; exact calc_cell w
theorem calc_below {w w' : World} (h : Kept (w.heap.size + 1) (w.alloc (.cells #[.bool false] 32)) w') : Below w.heap.size w w' :=
  ((Below.refl _ _).alloc (Nat.le_refl _) _).trans (h.below.mono (Nat.le_succ _))

end Go.Proofs.YthmoimilhbmagacDoor
