import Derived.Test.YthmoimilhbmagabRefShift
namespace Go.Proofs.Ythmoimilhbmagab
open Go.ChangeShapes Go.WideShapes Go.ChangeAt Go.RowKit

/-- What the document's loop over the places has after i of them. -/
theorem place_lt (j : Nat) (h : j < 64) : 2 ^ j < 18446744073709551616 := pow_lt j h
theorem bit_step (n j : Nat) : n % 2 ^ (j + 1) = n % 2 ^ j + n / 2 ^ j % 2 * 2 ^ j := by
  rw [Nat.pow_succ, Nat.mod_mul, Nat.mul_comm (2 ^ j)]
theorem and_place (x y j : Nat) : (x &&& y) / 2 ^ j % 2 = (x / 2 ^ j % 2) * (y / 2 ^ j % 2) := by
  have h := Nat.testBit_and x y j
  rw [Nat.testBit_eq_decide_div_mod_eq, Nat.testBit_eq_decide_div_mod_eq, Nat.testBit_eq_decide_div_mod_eq] at h
  rcases Nat.mod_two_eq_zero_or_one (x / 2 ^ j) with a | a <;> rcases Nat.mod_two_eq_zero_or_one (y / 2 ^ j) with b | b <;> rcases Nat.mod_two_eq_zero_or_one ((x &&& y) / 2 ^ j) with c | c <;> rw [a, b, c] at h <;> rw [a, b, c] <;> simp at h
theorem or_place (x y j : Nat) : (x ||| y) / 2 ^ j % 2 = if x / 2 ^ j % 2 + y / 2 ^ j % 2 = 0 then 0 else 1 := by
  have h := Nat.testBit_or x y j
  rw [Nat.testBit_eq_decide_div_mod_eq, Nat.testBit_eq_decide_div_mod_eq, Nat.testBit_eq_decide_div_mod_eq] at h
  rcases Nat.mod_two_eq_zero_or_one (x / 2 ^ j) with a | a <;> rcases Nat.mod_two_eq_zero_or_one (y / 2 ^ j) with b | b <;> rcases Nat.mod_two_eq_zero_or_one ((x ||| y) / 2 ^ j) with c | c <;> rw [a, b, c] at h <;> rw [a, b, c] <;> simp at h <;> rfl
theorem xor_place (x y j : Nat) : (x ^^^ y) / 2 ^ j % 2 = if x / 2 ^ j % 2 + y / 2 ^ j % 2 = 1 then 1 else 0 := by
  have h := Nat.testBit_xor x y j
  rw [Nat.testBit_eq_decide_div_mod_eq, Nat.testBit_eq_decide_div_mod_eq, Nat.testBit_eq_decide_div_mod_eq] at h
  rcases Nat.mod_two_eq_zero_or_one (x / 2 ^ j) with a | a <;> rcases Nat.mod_two_eq_zero_or_one (y / 2 ^ j) with b | b <;> rcases Nat.mod_two_eq_zero_or_one ((x ^^^ y) / 2 ^ j) with c | c <;> rw [a, b, c] at h <;> rw [a, b, c] <;> simp at h <;> rfl
theorem half_place (x j : Nat) : x / 2 ^ (j + 1) = x / 2 ^ j / 2 := by rw [Nat.pow_succ, Nat.div_div_eq_div_mul]
theorem wrap_uu (a : Int) : IntKind.u64.wrap a = ((u a : Nat) : Int) := by rw [IntKind.wrap_u64]; unfold u; omega
end Go.Proofs.Ythmoimilhbmagab
