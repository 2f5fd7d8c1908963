import Derived.Test.YthmoimilhbmagabSat
namespace Go.Proofs.Ythmoimilhbmagab
open Go.ChangeShapes Go.WideShapes Go.ChangeAt Go.RowKit

set_option maxHeartbeats 1000000 in
theorem satMul_same (a b : Int) (ha : In64 a) (hb : In64 b) (s : (a < 0) = (b < 0)) (w : World) :
    Calls Try.prog 16 #[.int .i64 a, .int .i64 b] w fun e w' => e = .returned (.int .i64 (clamp (a * b))) ∧ w' = w := by
  have hs : Hid ((a < 0) = (b < 0)) := s
  have t1 : (decide (a < 0) == decide (b < 0)) = true := by simp [s]
  clear s
  go_enter Try.func16, Try.ntmps16
  go_wp2_with (go_at_call 24; refine (magnitude_any _ (by assumption) _).mono ?_; rintro e w' ⟨rfl, rfl⟩)
  refine (mul64_any _ _ (mag_in ha) (mag_in hb) _).mono ?_
  rintro e w1 ⟨hi, lo, rfl, rfl, hp⟩
  have e1 : Hid (a * b = hi * 18446744073709551616 + lo) := prod_same hp hs.out
  obtain ⟨_, p1, p2, p3⟩ := hp
  by_cases d1 : 0 < hi
  · go_wp2
    go_ret
    exact ⟨ret64 (clamp_hi (by have := e1.out; omega)), rfl⟩
  · by_cases d2 : 9223372036854775808 ≤ lo
    · go_wp2
      go_ret
      exact ⟨ret64 (clamp_hi (by have := e1.out; omega)), rfl⟩
    · go_wp2
      go_ret
      exact ⟨ret64 (clamp_in (by have := e1.out; omega) (by have := e1.out; omega) (by have := e1.out; omega)), rfl⟩
set_option maxHeartbeats 1000000 in
theorem satMul_diff (a b : Int) (ha : In64 a) (hb : In64 b) (s : (a < 0) ≠ (b < 0)) (w : World) :
    Calls Try.prog 16 #[.int .i64 a, .int .i64 b] w fun e w' => e = .returned (.int .i64 (clamp (a * b))) ∧ w' = w := by
  have hs : Hid ((a < 0) ≠ (b < 0)) := s
  have t1 : (decide (a < 0) == decide (b < 0)) = false := by
    rw [beq_eq_false_iff_ne]; intro h; exact s (by simpa using h)
  clear s
  go_enter Try.func16, Try.ntmps16
  go_wp2_with (go_at_call 24; refine (magnitude_any _ (by assumption) _).mono ?_; rintro e w' ⟨rfl, rfl⟩)
  refine (mul64_any _ _ (mag_in ha) (mag_in hb) _).mono ?_
  rintro e w1 ⟨hi, lo, rfl, rfl, hp⟩
  have e1 : Hid (a * b = -(hi * 18446744073709551616 + lo)) := prod_diff hp hs.out
  obtain ⟨_, p1, p2, p3⟩ := hp
  by_cases d1 : 0 < hi
  · go_wp2
    go_ret
    exact ⟨ret64 (clamp_lo (by have := e1.out; omega)), rfl⟩
  · by_cases d2 : 9223372036854775808 ≤ lo
    · go_wp2
      go_ret
      exact ⟨ret64 (clamp_lo (by have := e1.out; omega)), rfl⟩
    · go_wp2
      go_ret
      exact ⟨ret64 (clamp_in (by have := e1.out; omega) (by have := e1.out; omega) (by have := e1.out; omega)), rfl⟩
theorem satMul_any (a b : Int) (ha : In64 a) (hb : In64 b) (w : World) :
    Calls Try.prog 16 #[.int .i64 a, .int .i64 b] w fun e w' => e = .returned (.int .i64 (clamp (a * b))) ∧ w' = w := by
  by_cases s : (a < 0) = (b < 0)
  · exact satMul_same a b ha hb s w
  · exact satMul_diff a b ha hb s w
end Go.Proofs.Ythmoimilhbmagab
