import Derived.Test.YthmoimilhbmagabRefSat
namespace Go.Proofs.Ythmoimilhbmagab
open Go.ChangeShapes Go.WideShapes Go.ChangeAt Go.RowKit

theorem size_neg {a : Int} (h : a < 0) (h1 : -9223372036854775808 ≤ a) : -(a + 1) + 1 = mag a := by unfold mag; omega
theorem size_any (a : Int) (ha : In64 a) (w : World) :
    Calls Try.prog 43 #[.int .i64 a] w fun e w' => e = .returned (.int .u64 (mag a)) ∧ w' = w := by
  obtain ⟨h1, h2⟩ := ha
  by_cases c1 : a < 0
  · rw [← size_neg c1 h1]
    go_enter Try.func43, Try.ntmps43
    go_wp2
    go_ret
    exact ⟨rfl, rfl⟩
  · rw [← mag_pos (show 0 ≤ a by omega)]
    go_enter Try.func43, Try.ntmps43
    go_wp2
    go_ret
    exact ⟨rfl, rfl⟩
theorem signed_minus (n : Int) (h : 0 ≤ n ∧ n < 18446744073709551616) (w : World) :
    Calls Try.prog 44 #[.int .u64 n, .bool true] w fun e w' => e = .returned (.int .i64 (wrap64 (-n))) ∧ w' = w := by
  obtain ⟨h1, h2⟩ := h
  go_enter Try.func44, Try.ntmps44
  go_wp2
  go_ret
  refine ⟨ret64 ?_, rfl⟩
  rw [IntKind.wrap_u64]; unfold wrap64; omega
theorem signed_plus (n : Int) (h : 0 ≤ n ∧ n < 18446744073709551616) (w : World) :
    Calls Try.prog 44 #[.int .u64 n, .bool false] w fun e w' => e = .returned (.int .i64 (wrap64 n)) ∧ w' = w := by
  obtain ⟨h1, h2⟩ := h
  go_enter Try.func44, Try.ntmps44
  go_wp2
  go_ret
  exact ⟨rfl, rfl⟩

set_option maxHeartbeats 1000000 in
theorem product_nat (x y : Nat) (hx : x < 18446744073709551616) (hy : y < 18446744073709551616) (w : World) :
    Calls Try.prog 42 #[.int .u64 x, .int .u64 y] w fun e w' => e = .returned (.tuple #[.int .u64 ((x * y / 18446744073709551616 : Nat) : Int), .int .u64 ((x * y % 18446744073709551616 : Nat) : Int)]) ∧ w' = w := by
  obtain ⟨hhi, n6⟩ := ref_prod x y hx hy
  have m1 := Lib.half_mul_le (a := x / 4294967296) (b := y / 4294967296) (by omega) (by omega)
  have m2 := Lib.half_mul_le (a := x / 4294967296) (b := y % 4294967296) (by omega) (by omega)
  have m3 := Lib.half_mul_le (a := x % 4294967296) (b := y / 4294967296) (by omega) (by omega)
  have m4 := Lib.half_mul_le (a := x % 4294967296) (b := y % 4294967296) (by omega) (by omega)
  have n1 : x / 4294967296 * (y / 4294967296) < 18446744073709551616 := by omega
  have n2 : x / 4294967296 * (y % 4294967296) < 18446744073709551616 := by omega
  have n3 : x % 4294967296 * (y / 4294967296) < 18446744073709551616 := by omega
  have n4 : x % 4294967296 * (y % 4294967296) < 18446744073709551616 := by omega
  have n5 : x / 4294967296 * (y / 4294967296) + x / 4294967296 * (y % 4294967296) / 4294967296 < 18446744073709551616 := by omega
  have n7 : x % 4294967296 * (y % 4294967296) / 4294967296 + x / 4294967296 * (y % 4294967296) % 4294967296 < 18446744073709551616 := by omega
  have n8 : x % 4294967296 * (y % 4294967296) / 4294967296 + x / 4294967296 * (y % 4294967296) % 4294967296 + x % 4294967296 * (y / 4294967296) % 4294967296 < 18446744073709551616 := by omega
  have n9 : x / 4294967296 * (y / 4294967296) + x / 4294967296 * (y % 4294967296) / 4294967296 + x % 4294967296 * (y / 4294967296) / 4294967296 +
      (x % 4294967296 * (y % 4294967296) / 4294967296 + x / 4294967296 * (y % 4294967296) % 4294967296 + x % 4294967296 * (y / 4294967296) % 4294967296) / 4294967296 < 18446744073709551616 := by
    rw [hhi]
    have : x * y < 18446744073709551616 * 18446744073709551616 := Nat.mul_lt_mul'' hx hy
    omega
  go_enter Try.func42, Try.ntmps42
  go_wp2
  simp only [cdiv, cmod, ctmod, cmul, cadd, cwrap _ n1, cwrap _ n2, cwrap _ n3, cwrap _ n4, cwrap _ n5, cwrap _ n6, cwrap _ n7, cwrap _ n8, cwrap _ n9, cwrapM (x * y)]
  rw [hhi]
  go_ret2
  exact ⟨rfl, rfl⟩
theorem product_any (x y : Int) (hx : 0 ≤ x ∧ x < 18446744073709551616) (hy : 0 ≤ y ∧ y < 18446744073709551616) (w : World) :
    Calls Try.prog 42 #[.int .u64 x, .int .u64 y] w fun e w' => ∃ hi lo : Int, e = .returned (.tuple #[.int .u64 hi, .int .u64 lo]) ∧ w' = w ∧ Prod128 hi lo x y := by
  obtain ⟨n, rfl⟩ := Int.eq_ofNat_of_zero_le hx.1
  obtain ⟨m, rfl⟩ := Int.eq_ofNat_of_zero_le hy.1
  refine (product_nat n m (by omega) (by omega) w).mono ?_
  rintro e w' ⟨rfl, rfl⟩
  exact ⟨_, _, rfl, rfl, prod128_of n m⟩

theorem wrap_in_of {n m : Int} (e : n = m) (h1 : -9223372036854775808 ≤ m) (h2 : m ≤ 9223372036854775807) : wrap64 n = clamp m := by
  rw [e, wrap_id (by unfold In64; omega), ← clamp_in rfl h1 h2]
set_option maxHeartbeats 1000000 in
theorem refSatMul_any (a b : Int) (ha : In64 a) (hb : In64 b) (w : World) :
    Calls Try.prog 21 #[.int .i64 a, .int .i64 b] w fun e w' => e = .returned (.int .i64 (clamp (a * b))) ∧ w' = w := by
  by_cases s : (a < 0) = (b < 0)
  · have hs : Hid ((a < 0) = (b < 0)) := s
    have t1 : (decide (a < 0) == decide (b < 0)) = true := by simp [s]
    clear s
    go_enter Try.func21, Try.ntmps21
    go_wp2_with (go_at_call 43; refine (size_any _ (by assumption) _).mono ?_; rintro e w' ⟨rfl, rfl⟩)
    refine (product_any _ _ (mag_in ha) (mag_in hb) _).mono ?_
    rintro e w1 ⟨hi, lo, rfl, rfl, hp⟩
    have e1 : Hid (a * b = hi * 18446744073709551616 + lo) := prod_same hp hs.out
    obtain ⟨_, p1, p2, p3⟩ := hp
    by_cases d1 : 0 < hi
    · go_wp2
      go_ret
      exact ⟨ret64 (clamp_hi (by have := e1.out; omega)), rfl⟩
    · by_cases d2 : 9223372036854775808 ≤ lo
      · go_wp2
        go_ret
        exact ⟨ret64 (clamp_hi (by have := e1.out; omega)), rfl⟩
      · go_wp2_with (go_at_call 44; refine (signed_plus _ ⟨by assumption, by assumption⟩ _).mono ?_; rintro e w' ⟨rfl, rfl⟩)
        go_ret
        exact ⟨ret64 (wrap_in_of (by have := e1.out; omega) (by have := e1.out; omega) (by have := e1.out; omega)), rfl⟩
  · have hs : Hid ((a < 0) ≠ (b < 0)) := s
    have t1 : (decide (a < 0) == decide (b < 0)) = false := by
      rw [beq_eq_false_iff_ne]; intro h; exact s (by simpa using h)
    clear s
    go_enter Try.func21, Try.ntmps21
    go_wp2_with (go_at_call 43; refine (size_any _ (by assumption) _).mono ?_; rintro e w' ⟨rfl, rfl⟩)
    refine (product_any _ _ (mag_in ha) (mag_in hb) _).mono ?_
    rintro e w1 ⟨hi, lo, rfl, rfl, hp⟩
    have e1 : Hid (a * b = -(hi * 18446744073709551616 + lo)) := prod_diff hp hs.out
    obtain ⟨_, p1, p2, p3⟩ := hp
    by_cases d1 : 0 < hi
    · go_wp2
      go_ret
      exact ⟨ret64 (clamp_lo (by have := e1.out; omega)), rfl⟩
    · by_cases d2 : 9223372036854775808 < lo
      · go_wp2
        go_ret
        exact ⟨ret64 (clamp_lo (by have := e1.out; omega)), rfl⟩
      · go_wp2_with (go_at_call 44; refine (signed_minus _ ⟨by assumption, by assumption⟩ _).mono ?_; rintro e w' ⟨rfl, rfl⟩)
        go_ret
        exact ⟨ret64 (wrap_in_of (by have := e1.out; omega) (by have := e1.out; omega) (by have := e1.out; omega)), rfl⟩
end Go.Proofs.Ythmoimilhbmagab
