import Derived.Test.YtanmpioplckgbaaDoorBitFacts
import Derived.Lib.Mul64
import Derived.Laws.Bits64b
namespace Go.Proofs.YtanmpioplckgbaaDoor
open Go.RowKit

theorem ret64 {a b : Int} (h : a = b) : Ending.returned (.int .i64 a) = .returned (.int .i64 b) := by rw [h]
theorem retU {a b : Int} (h : a = b) : Ending.returned (.int .u64 a) = .returned (.int .u64 b) := by rw [h]

/-- A whole number, stopped at the ends of int64. -/
def clamp (n : Int) : Int := if 9223372036854775807 < n then 9223372036854775807 else if n < -9223372036854775808 then -9223372036854775808 else n
theorem clamp_hi {n : Int} (h : 9223372036854775807 ≤ n) : (9223372036854775807 : Int) = clamp n := by unfold clamp; split <;> omega
theorem clamp_lo {n : Int} (h : n ≤ -9223372036854775808) : (-9223372036854775808 : Int) = clamp n := by unfold clamp; split <;> omega
theorem clamp_in {n m : Int} (e : m = n) (h1 : -9223372036854775808 ≤ n) (h2 : n ≤ 9223372036854775807) : m = clamp n := by unfold clamp; rw [if_neg (by omega), if_neg (by omega), e]
theorem clamp_in64 (n : Int) : In64 (clamp n) := by unfold clamp In64; split <;> omega

/-- The size of a number. -/
def mag (a : Int) : Int := (a.natAbs : Int)
theorem mag_neg {a : Int} (h : a < 0) (_h1 : -9223372036854775808 ≤ a) : IntKind.u64.wrap (-IntKind.u64.wrap a) = mag a := by
  rw [IntKind.wrap_u64, IntKind.wrap_u64]; unfold mag; omega
theorem mag_pos {a : Int} (h : 0 ≤ a) : a = mag a := by unfold mag; omega
theorem mag_in {a : Int} (h : In64 a) : 0 ≤ mag a ∧ mag a < 18446744073709551616 := by unfold In64 at h; unfold mag; omega

/-- Two halves of a product, and what they stand for. -/
def Prod128 (hi lo x y : Int) : Prop := hi * 18446744073709551616 + lo = x * y ∧ 0 ≤ hi ∧ 0 ≤ lo ∧ lo < 18446744073709551616
theorem prod_same {a b hi lo : Int} (h : Prod128 hi lo (mag a) (mag b)) (s : (a < 0) = (b < 0)) : a * b = hi * 18446744073709551616 + lo := by
  rw [h.1]; unfold mag
  by_cases g : a < 0
  · have g2 : b < 0 := by rw [← s]; exact g
    rw [show ((a.natAbs : Nat) : Int) = -a by omega, show ((b.natAbs : Nat) : Int) = -b by omega, Int.neg_mul_neg]
  · have g2 : ¬ b < 0 := by rw [← s]; exact g
    rw [show ((a.natAbs : Nat) : Int) = a by omega, show ((b.natAbs : Nat) : Int) = b by omega]
theorem prod_diff {a b hi lo : Int} (h : Prod128 hi lo (mag a) (mag b)) (s : (a < 0) ≠ (b < 0)) : a * b = -(hi * 18446744073709551616 + lo) := by
  rw [h.1]; unfold mag
  by_cases g : a < 0
  · have g2 : ¬ b < 0 := fun k => s (by simp [g, k])
    rw [show ((a.natAbs : Nat) : Int) = -a by omega, show ((b.natAbs : Nat) : Int) = b by omega, Int.neg_mul, Int.neg_neg]
  · have g2 : b < 0 := by
      by_cases k : b < 0
      · exact k
      · exact absurd (by simp [g, k]) s
    rw [show ((a.natAbs : Nat) : Int) = a by omega, show ((b.natAbs : Nat) : Int) = -b by omega, Int.mul_neg, Int.neg_neg]

theorem low32 (n : Nat) (h : n < 18446744073709551616) : bits .and .u64 (n : Int) 4294967295 = ((n % 4294967296 : Nat) : Int) := by
  rw [u64_and _ _ (by omega) (by omega) (by decide) (by decide), Int.toNat_natCast]
  exact congrArg _ (Nat.and_two_pow_sub_one_eq_mod n 32)
theorem cdiv (n : Nat) : (n : Int) / 4294967296 = ((n / 4294967296 : Nat) : Int) := by omega
theorem cmul (m n : Nat) : (m : Int) * (n : Int) = ((m * n : Nat) : Int) := (Int.natCast_mul m n).symm
theorem cadd (m n : Nat) : (m : Int) + (n : Int) = ((m + n : Nat) : Int) := (Int.natCast_add m n).symm
theorem cwrap (n : Nat) (h : n < 18446744073709551616) : IntKind.u64.wrap (n : Int) = (n : Int) := by rw [IntKind.wrap_u64]; omega
theorem cwrapM (n : Nat) : IntKind.u64.wrap (n : Int) = ((n % 18446744073709551616 : Nat) : Int) := by rw [IntKind.wrap_u64]; omega
theorem cmod (n : Nat) : (n : Int) % 4294967296 = ((n % 4294967296 : Nat) : Int) := by omega

theorem ctmod (n : Nat) : (n : Int).tmod 4294967296 = ((n % 4294967296 : Nat) : Int) := by
  rw [Int.tmod_eq_emod_of_nonneg (by omega)]; omega

theorem prod128_of (x y : Nat) : Prod128 ((x * y / 18446744073709551616 : Nat) : Int) ((x * y % 18446744073709551616 : Nat) : Int) x y := by
  refine ⟨?_, by omega, by omega, by omega⟩
  rw [← Int.natCast_mul]
  omega

/-! The document's sum in two halves. -/
theorem ref_high (a b : Int) (ha : In64 a) (hb : In64 b) : wrap64 (a / 4294967296 + b / 4294967296 + wrap64 (IntKind.u64.wrap ((IntKind.u64.wrap a).tmod 4294967296 + (IntKind.u64.wrap b).tmod 4294967296) / 4294967296)) = (a + b) / 4294967296 := by
  unfold In64 at ha hb
  rw [IntKind.wrap_u64 a, IntKind.wrap_u64 b, tmod_of_emod, tmod_of_emod, IntKind.wrap_u64]; unfold wrap64; omega
theorem ref_low (a b : Int) : wrap64 ((IntKind.u64.wrap ((IntKind.u64.wrap a).tmod 4294967296 + (IntKind.u64.wrap b).tmod 4294967296)).tmod 4294967296) = (a + b) % 4294967296 := by
  rw [IntKind.wrap_u64 a, IntKind.wrap_u64 b, tmod_of_emod, tmod_of_emod, IntKind.wrap_u64, tmod_of_emod]; unfold wrap64; omega

/-! The document's product: the carry of the three middle pieces. -/
theorem ref_prod (x y : Nat) (hx : x < 18446744073709551616) (hy : y < 18446744073709551616) :
    x / 4294967296 * (y / 4294967296) + x / 4294967296 * (y % 4294967296) / 4294967296 + x % 4294967296 * (y / 4294967296) / 4294967296 +
      (x % 4294967296 * (y % 4294967296) / 4294967296 + x / 4294967296 * (y % 4294967296) % 4294967296 + x % 4294967296 * (y / 4294967296) % 4294967296) / 4294967296 = x * y / 18446744073709551616 ∧
    x / 4294967296 * (y / 4294967296) + x / 4294967296 * (y % 4294967296) / 4294967296 + x % 4294967296 * (y / 4294967296) / 4294967296 < 18446744073709551616 := by
  have e := Lib.split_mul (x / 4294967296) (x % 4294967296) (y / 4294967296) (y % 4294967296) 4294967296
  rw [show x / 4294967296 * 4294967296 + x % 4294967296 = x by omega, show y / 4294967296 * 4294967296 + y % 4294967296 = y by omega] at e
  have ba := Lib.half_mul_le (a := x / 4294967296) (b := y / 4294967296) (by omega) (by omega)
  have bb := Lib.half_mul_le (a := x / 4294967296) (b := y % 4294967296) (by omega) (by omega)
  have bc := Lib.half_mul_le (a := x % 4294967296) (b := y / 4294967296) (by omega) (by omega)
  have bd := Lib.half_mul_le (a := x % 4294967296) (b := y % 4294967296) (by omega) (by omega)
  generalize x / 4294967296 * (y / 4294967296) = A at *
  generalize x / 4294967296 * (y % 4294967296) = B at *
  generalize x % 4294967296 * (y / 4294967296) = C at *
  generalize x % 4294967296 * (y % 4294967296) = D at *
  omega
end Go.Proofs.YtanmpioplckgbaaDoor
