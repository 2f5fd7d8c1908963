import Derived.Test.YthmoimilhbmagaaRing
import Derived.Test.YthmoimilhbmagaaShiftFacts
namespace Go.Proofs.Ythmoimilhbmagaa
open Go.ChangeShapes Go.WideShapes Go.ChangeAt Go.RowKit

theorem sign_same (a k : Int) : (decide (ap 10 a k < 0) == decide (a < 0)) = true := by
  simp [shr_sign]
set_option maxHeartbeats 2000000 in
theorem shifts_walk (a k : Int) (ha : In64 a) (_hk : In64 k) (w : World) :
    Calls Try.prog 5 #[.int .i64 a, .int .i64 k] w fun e w' => e = .returned (.bool true) ∧ Below w.heap.size w w' := by
  have h6 := six_lt k
  have q0 : 0 ≤ ap 6 k 63 := by rw [mask_63]; omega
  have q1 : ap 6 k 63 ≤ 63 := by rw [mask_63]; omega
  have f0 : (ap 9 1 4 != 16) = false := by decide +kernel
  have f1 : (ap 10 (-16) 2 != -4) = false := by decide +kernel
  have f2 := neF (shl_mul a (ap 6 k 63))
  have f3 := neF (shl_six a _ _ (six_up (ap 6 k 63)).symm)
  have f4 := neF (shl_six a _ _ (six_down (ap 6 k 63)).symm)
  have f5 := neF (shr_six a _ _ (six_down (ap 6 k 63)).symm)
  have f6 := neF (shr_back a (ap 6 k 63) ha)
  have f7 := sign_same a (ap 6 k 63)
  have f8 := eqT (shl_zero a ha)
  have f9 := eqT (shr_zero a)
  have hk := Kept.start w (.cells #[.bool false] 34)
  have hc := calc_cell w
  clear ha h6
  by_cases c : ap 6 k 63 < 63
  · have g1 := neF (shl_succ a _ q0 c)
    have g2 := neF (shr_succ a _ q0 c)
    go_enter Try.func5, Try.ntmps5
    go_wp2_with (go_at_call 11; refine (do_any _ _ _ _ (by decide) hk).mono ?_; rintro e w1 ⟨rfl, hk1⟩; replace hk := hk1; clear hk1; replace hc := calc_kept hk)
    go_ret
    exact ⟨rfl, calc_below hk⟩
  · go_enter Try.func5, Try.ntmps5
    go_wp2_with (go_at_call 11; refine (do_any _ _ _ _ (by decide) hk).mono ?_; rintro e w1 ⟨rfl, hk1⟩; replace hk := hk1; clear hk1; replace hc := calc_kept hk)
    go_ret
    exact ⟨rfl, calc_below hk⟩
end Go.Proofs.Ythmoimilhbmagaa
