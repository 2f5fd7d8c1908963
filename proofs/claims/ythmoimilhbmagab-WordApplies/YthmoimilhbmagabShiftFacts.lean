import Derived.Test.YthmoimilhbmagabBitFacts
namespace Go.Proofs.Ythmoimilhbmagab
open Go.RowKit

theorem six_of (k : Int) (h0 : 0 ≤ k) (h1 : k ≤ 63) : six k = k.toNat := by unfold six; omega
theorem six_up (k : Int) : six (k + 64) = six k := by unfold six; omega
theorem six_down (k : Int) : six (k - 64) = six k := by unfold six; omega
theorem six_succ (k : Int) (h0 : 0 ≤ k) (h1 : k < 63) : six (k + 1) = six k + 1 := by unfold six; omega
theorem mask_63 (k : Int) : ap 6 k 63 = ((six k : Nat) : Int) := by
  have h6 := six_lt k
  have e : u 63 = 63 := rfl
  have hu : u k % 64 = six k := by unfold u six; omega
  rw [ap6, and_i64, e, nat_mask6, hu]
  exact wrap_id (by unfold In64; omega)
theorem ap10_in (a k : Int) (h : In64 a) : In64 (ap 10 a k) := by
  rw [ap10]
  have hp : (0 : Int) < 2 ^ six k := Int.pow_pos (by decide)
  unfold In64 at *
  constructor
  · rw [Int.le_ediv_iff_mul_le hp]
    have : (1 : Int) ≤ 2 ^ six k := hp
    have h3 : (9223372036854775808 : Int) * 1 ≤ 9223372036854775808 * 2 ^ six k := Int.mul_le_mul_of_nonneg_left this (by decide)
    omega
  · by_cases h0 : 0 ≤ a
    · have := Int.ediv_le_self (2 ^ six k) h0; omega
    · have : a / 2 ^ six k < 0 := Int.ediv_neg_of_neg_of_pos (by omega) hp
      omega
theorem shl_mul (a k : Int) : ap 9 a k = ap 3 a (ap 9 1 k) := by
  rw [ap3, ap9, ap9, wrap_mul_wrap, Int.one_mul]
theorem shl_six (a k m : Int) (h : six k = six m) : ap 9 a k = ap 9 a m := by rw [ap9, ap9, h]
theorem shr_six (a k m : Int) (h : six k = six m) : ap 10 a k = ap 10 a m := by rw [ap10, ap10, h]
theorem pow_split (s : Nat) (h : s < 64) : (2 : Nat) ^ 64 = 2 ^ s * 2 ^ (64 - s) := by rw [← Nat.pow_add]; congr 1; omega
theorem u_mask (k : Int) : u (ap 2 (ap 9 1 k) 1) = 2 ^ six k - 1 := by
  have hp : 0 < 2 ^ six k := Nat.two_pow_pos _
  have hl := pow_lt _ (six_lt k)
  rw [ap2, ap9_one, wrap_wrap_sub, u_wrap]
  generalize 2 ^ six k = p at *
  unfold u; omega
theorem u_mod (a : Int) (s : Nat) (h : s < 64) : ((u a % 2 ^ s : Nat) : Int) = a % 2 ^ s := by
  have e : (18446744073709551616 : Int) = 2 ^ s * 2 ^ (64 - s) := by
    rw [← Int.pow_add, show s + (64 - s) = 64 by omega]; rfl
  have hu : ((u a : Nat) : Int) = a % 18446744073709551616 := by unfold u; omega
  rw [Int.natCast_emod, hu, Int.natCast_pow, e]
  exact Int.emod_emod_of_dvd _ ⟨_, rfl⟩
theorem shr_back (a k : Int) (h : In64 a) : ap 1 (ap 3 (ap 10 a k) (ap 9 1 k)) (ap 6 a (ap 2 (ap 9 1 k) 1)) = a := by
  have h6 := six_lt k
  rw [ap6 a, and_i64, u_mask, ap1, ap3, ap9_one, wrap_mul_wrap, wrap_wrap_add, Nat.and_two_pow_sub_one_eq_mod, wrap_add_wrap, u_mod _ _ h6, ap10, Int.natCast_pow]
  have e := Int.mul_ediv_add_emod a (2 ^ six k)
  rw [Int.mul_comm] at e
  show wrap64 (a / 2 ^ six k * 2 ^ six k + a % 2 ^ six k) = a
  rw [e, wrap_id h]
theorem shr_sign (a k : Int) : (ap 10 a k < 0) ↔ (a < 0) := by
  rw [ap10]
  have hp : (0 : Int) < 2 ^ six k := Int.pow_pos (by decide)
  constructor
  · intro h
    by_cases h0 : a < 0
    · exact h0
    · have := Int.ediv_nonneg (show 0 ≤ a by omega) (Int.le_of_lt hp); omega
  · intro h; exact Int.ediv_neg_of_neg_of_pos h hp
theorem shl_succ (a k : Int) (h0 : 0 ≤ k) (h1 : k < 63) : ap 9 a (k + 1) = ap 9 (ap 9 a k) 1 := by
  have e : six 1 = 1 := rfl
  rw [ap9, ap9, ap9, six_succ k h0 h1, e, wrap_wrap_mul, Int.pow_succ, Int.mul_assoc]
  rfl
theorem shr_succ (a k : Int) (h0 : 0 ≤ k) (h1 : k < 63) : ap 10 a (k + 1) = ap 10 (ap 10 a k) 1 := by
  have e : six 1 = 1 := rfl
  have hp : (0 : Int) ≤ 2 ^ six k := Int.pow_nonneg (by decide)
  rw [ap10, ap10, ap10, six_succ k h0 h1, e, Int.ediv_ediv_of_nonneg hp, Int.pow_succ]
  rfl
theorem shl_zero (a : Int) (h : In64 a) : ap 9 a 0 = a := by
  have e : six 0 = 0 := rfl
  rw [ap9, e, Int.pow_zero, Int.mul_one, wrap_id h]
theorem shr_zero (a : Int) : ap 10 a 0 = a := by
  have e : six 0 = 0 := rfl
  rw [ap10, e, Int.pow_zero, Int.ediv_one]
end Go.Proofs.Ythmoimilhbmagab
