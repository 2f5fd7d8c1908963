import Derived.Test.YthmoimilhbmagaaRing
import Derived.Test.YthmoimilhbmagaaBitFacts
namespace Go.Proofs.Ythmoimilhbmagaa
open Go.ChangeShapes Go.WideShapes Go.ChangeAt Go.RowKit

set_option maxHeartbeats 2000000 in
theorem bits_walk (a b k : Int) (ha : In64 a) (hb : In64 b) (_hk : In64 k) (w : World) :
    Calls Try.prog 4 #[.int .i64 a, .int .i64 b, .int .i64 k] w fun e w' => e = .returned (.bool true) ∧ Below w.heap.size w w' := by
  have f1 := neF (bits_sum a b)
  have f2 := neF (bits_xor a b)
  have f3 := neF (bits_ao a b ha)
  have f4 := neF (bits_oa a b ha)
  have f5 := neF (bits_bo a b hb)
  have f6 := neF (bits_ba a b hb)
  have f7 := eqF (one_ne k)
  have f8 : (ap 6 12 10 == 8) = true := by decide +kernel
  have f9 : (ap 7 12 10 == 14) = true := by decide +kernel
  have g1 := bit_or_none (ap 6 a b) k
  have g2 := bit_both a b k
  have hk := Kept.start w (.cells #[.bool false] 34)
  have hc := calc_cell w
  clear ha hb
  by_cases c1 : ap 6 a (ap 9 1 k) = ap 9 1 k
  · by_cases c2 : ap 6 b (ap 9 1 k) = ap 9 1 k
    · have h3 : (ap 6 (ap 6 a b) (ap 9 1 k) == ap 9 1 k) = true := eqT (g2.2 ⟨c1, c2⟩)
      have h4 : (ap 6 (ap 6 a b) (ap 9 1 k) != ap 9 1 k) = false := neF (g2.2 ⟨c1, c2⟩)
      have h5 : (ap 6 (ap 6 a b) (ap 9 1 k) != 0) = true := by rw [g2.2 ⟨c1, c2⟩]; exact neT (one_ne k)
      replace c1 := eqT c1
      replace c2 := eqT c2
      clear g1 g2
      go_enter Try.func4, Try.ntmps4
      go_wp2_with (go_at_call 11; refine (do_any _ _ _ _ (by decide) hk).mono ?_; rintro e w1 ⟨rfl, hk1⟩; replace hk := hk1; clear hk1; replace hc := calc_kept hk)
      go_ret
      exact ⟨rfl, calc_below hk⟩
    · have n3 : ap 6 (ap 6 a b) (ap 9 1 k) ≠ ap 9 1 k := fun h => c2 (g2.1 h).2
      have h3 := eqF n3
      have h5 : (ap 6 (ap 6 a b) (ap 9 1 k) != 0) = false := neF (g1.resolve_right n3)
      replace c1 := eqT c1
      replace c2 := eqF c2
      clear g1 g2 n3
      go_enter Try.func4, Try.ntmps4
      go_wp2_with (go_at_call 11; refine (do_any _ _ _ _ (by decide) hk).mono ?_; rintro e w1 ⟨rfl, hk1⟩; replace hk := hk1; clear hk1; replace hc := calc_kept hk)
      go_ret
      exact ⟨rfl, calc_below hk⟩
  · have n3 : ap 6 (ap 6 a b) (ap 9 1 k) ≠ ap 9 1 k := fun h => c1 (g2.1 h).1
    have h3 := eqF n3
    have h5 : (ap 6 (ap 6 a b) (ap 9 1 k) != 0) = false := neF (g1.resolve_right n3)
    replace c1 := eqF c1
    clear g1 g2 n3
    go_enter Try.func4, Try.ntmps4
    go_wp2_with (go_at_call 11; refine (do_any _ _ _ _ (by decide) hk).mono ?_; rintro e w1 ⟨rfl, hk1⟩; replace hk := hk1; clear hk1; replace hc := calc_kept hk)
    go_ret
    exact ⟨rfl, calc_below hk⟩
end Go.Proofs.Ythmoimilhbmagaa
