import Derived.Test.YthmoimilhbmagaaDo
import Derived.Test.YthmoimilhbmagaaFacts
namespace Go.Proofs.Ythmoimilhbmagaa
open Go.ChangeShapes Go.WideShapes Go.ChangeAt Go.RowKit

theorem calc_cell (w : World) : (w.alloc (.cells #[.bool false] 34)).cell? ⟨w.heap.size, 0, none⟩ = some (.bool false) := by simp
theorem calc_kept {w w' : World} (h : Kept (w.heap.size + 1) (w.alloc (.cells #[.bool false] 34)) w') : w'.cell? ⟨w.heap.size, 0, none⟩ = some (.bool false) := by
  rw [h.cell (by simp)]; exact calc_cell w
theorem calc_below {w w' : World} (h : Kept (w.heap.size + 1) (w.alloc (.cells #[.bool false] 34)) w') : Below w.heap.size w w' :=
  ((Below.refl _ _).alloc (Nat.le_refl _) _).trans (h.below.mono (Nat.le_succ _))

set_option maxHeartbeats 1000000 in
theorem ring_walk (a b k : Int) (ha : In64 a) (_hb : In64 b) (_hk : In64 k) (w : World) :
    Calls Try.prog 7 #[.int .i64 a, .int .i64 b, .int .i64 k] w fun e w' => e = .returned (.bool true) ∧ Below w.heap.size w w' := by
  have f0 : (ap 1 1 1 != 2) = false := by decide +kernel
  have f1 := neF (ring_one a ha)
  have f2 := neF (ring_zero a ha)
  have f3 := neF (ring_addC a b)
  have f4 := neF (ring_undo a b ha)
  have f5 := neF (ring_mulC a b)
  have f6 := neF (ring_addA a b k)
  have f7 := neF (ring_mulA a b k)
  have f8 := eqT (ring_dist a b k)
  have hk := Kept.start w (.cells #[.bool false] 34)
  have hc := calc_cell w
  clear ha
  go_enter Try.func7, Try.ntmps7
  go_wp2_with (first | (go_at_call 11; refine (do_any _ _ _ _ (by decide) hk).mono ?_; rintro e w1 ⟨rfl, hk1⟩; replace hk := hk1; clear hk1; replace hc := calc_kept hk) | (go_at_call 13; refine (fixed_any hk).mono ?_; rintro e w1 ⟨rfl, hk1⟩; replace hk := hk1; clear hk1; replace hc := calc_kept hk))
  go_ret
  exact ⟨rfl, calc_below hk⟩
end Go.Proofs.Ythmoimilhbmagaa
