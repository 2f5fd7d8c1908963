import Derived.Test.YthmoimilhbmagabShiftFacts
import Derived.Test.YthmoimilhbmagabSatFacts
import Derived.Test.YthmoimilhbmagabRows
import Derived.OpenShut
import Derived.WalkLawsBesides
namespace Go.Proofs.Ythmoimilhbmagab
open Go.ChangeShapes Go.WideShapes Go.ChangeAt Go.RowKit

theorem count_six (b : Int) : wrap64 ((IntKind.u64.wrap b).tmod 64) = ((six b : Nat) : Int) := by
  rw [IntKind.wrap_u64, tmod_of_emod]; unfold six wrap64; omega
theorem val64 {a b : Int} (h : a = b) : Value.int .i64 a = .int .i64 b := by rw [h]
theorem valU {a b : Int} (h : a = b) : Value.int .u64 a = .int .u64 b := by rw [h]
theorem dbl (a : Int) (j : Nat) : wrap64 (wrap64 (a * 2 ^ j) + wrap64 (a * 2 ^ j)) = wrap64 (a * 2 ^ (j + 1)) := by
  rw [wrap_wrap_add, wrap_add_wrap, Int.pow_succ]; congr 1; rw [← Int.mul_assoc]; omega
theorem half_in (a : Int) (j : Nat) (h : In64 a) : In64 (a / 2 ^ j) := by
  have hp : (0 : Int) < 2 ^ j := Int.pow_pos (by decide)
  unfold In64 at *
  constructor
  · rw [Int.le_ediv_iff_mul_le hp]
    have h3 : (9223372036854775808 : Int) * 1 ≤ 9223372036854775808 * 2 ^ j := Int.mul_le_mul_of_nonneg_left hp (by decide)
    omega
  · by_cases h0 : 0 ≤ a
    · have := Int.ediv_le_self (2 ^ j) h0; omega
    · have : a / 2 ^ j < 0 := Int.ediv_neg_of_neg_of_pos (by omega) hp
      omega
theorem half_succ (a : Int) (j : Nat) : a / 2 ^ (j + 1) = a / 2 ^ j / 2 := by
  rw [Int.pow_succ, Int.ediv_ediv_of_nonneg (Int.pow_nonneg (by decide))]

theorem half_neg (q : Int) (h1 : -9223372036854775808 ≤ q) (h2 : q < 0) : wrap64 (-wrap64 (wrap64 (-(q + 1).tdiv 2) + 1)) = q / 2 := by
  have e : (q + 1).tdiv 2 = -((-(q + 1)) / 2) := by
    have e1 := Int.neg_tdiv (-(q + 1)) 2
    have e2 : (-(q + 1)).tdiv 2 = (-(q + 1)) / 2 := Int.tdiv_eq_ediv_of_nonneg (by omega)
    rw [Int.neg_neg, e2] at e1
    exact e1
  rw [e, Int.neg_neg]
  unfold wrap64; omega

theorem shifted_shl (a b : Int) (ha : In64 a) (w : World) :
    Calls Try.prog 41 #[.int .i64 9, .int .i64 a, .int .i64 b] w fun e w' => e = .returned (.int .i64 (ap 9 a b)) ∧ w' = w := by
  have e6 := count_six b
  have h6 := six_lt b
  go_enter Try.func41, Try.ntmps41
  go_wp2
  go_loop [1, 8] (fun x i => ∃ j : Nat, j ≤ six b ∧ i = .int .i64 j ∧ x = .int .i64 (wrap64 (a * 2 ^ j))) (fun _ i => six b - (intOf i).toNat)
  case atStart => exact ⟨0, Nat.zero_le _, rfl, val64 (by rw [Int.pow_zero, Int.mul_one, wrap_id ha])⟩
  case round =>
    obtain ⟨j, hj, rfl, rfl⟩ := hrel
    have HD : Hid (_ = _) := dbl a j
    by_cases hlt : j < six b
    · go_wp2
      go_round
      case rel => exact ⟨j + 1, by omega, by go_num, val64 HD.out⟩
      case measure => simp [intOf]; omega
    · have : j = six b := by omega
      subst this
      go_wp2
      go_ret
      exact ⟨rfl, rfl⟩

set_option maxHeartbeats 1000000 in
theorem shifted_shr (a b : Int) (ha : In64 a) (w : World) :
    Calls Try.prog 41 #[.int .i64 10, .int .i64 a, .int .i64 b] w fun e w' => e = .returned (.int .i64 (ap 10 a b)) ∧ w' = w := by
  have e6 := count_six b
  have h6 := six_lt b
  go_enter Try.func41, Try.ntmps41
  go_wp2
  go_loop [1, 8] (fun x i => ∃ j : Nat, j ≤ six b ∧ i = .int .i64 j ∧ x = .int .i64 (a / 2 ^ j)) (fun _ i => six b - (intOf i).toNat)
  case atStart => exact ⟨0, Nat.zero_le _, rfl, val64 (by rw [Int.pow_zero, Int.ediv_one])⟩
  case round =>
    obtain ⟨j, hj, rfl, rfl⟩ := hrel
    have HD : Hid (_ = _) := half_succ a j
    obtain ⟨q1, q2⟩ := half_in a j ha
    by_cases hlt : j < six b
    · generalize a / 2 ^ j = q at *
      by_cases hq : q < 0
      · go_wp2
        go_round
        case rel => exact ⟨j + 1, by omega, by go_num, val64 (by rw [HD.out]; exact half_neg q q1 hq)⟩
        case measure => simp [intOf]; omega
      · go_wp2
        go_round
        case rel => exact ⟨j + 1, by omega, by go_num, val64 (by rw [HD.out])⟩
        case measure => simp [intOf]; omega
    · have : j = six b := by omega
      subst this
      go_wp2
      go_ret
      exact ⟨rfl, rfl⟩
end Go.Proofs.Ythmoimilhbmagab
