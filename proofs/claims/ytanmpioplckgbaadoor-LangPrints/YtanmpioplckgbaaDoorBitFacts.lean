import Derived.Test.YtanmpioplckgbaaDoorFacts
namespace Go.Proofs.YtanmpioplckgbaaDoor
open Go.RowKit

/-- A number of int64 without its sign: modulo 2^64. -/
def u (a : Int) : Nat := (a % 18446744073709551616).toNat

theorem u_lt (a : Int) : u a < 18446744073709551616 := by unfold u; omega
theorem u_lt' (a : Int) : u a < 2 ^ 64 := u_lt a
theorem wrap_u (a : Int) : wrap64 ((u a : Nat) : Int) = wrap64 a := by
  refine wrap_congr ⟨-(a / 18446744073709551616), ?_⟩; unfold u; omega
theorem wrap_u_id {a : Int} (h : In64 a) : wrap64 ((u a : Nat) : Int) = a := by rw [wrap_u, wrap_id h]
theorem u_wrap (n : Int) : u (wrap64 n) = u n := by unfold u wrap64; omega
theorem u_nat (n : Nat) (h : n < 18446744073709551616) : u ((n : Nat) : Int) = n := by unfold u; omega
theorem u_inj {a b : Int} (ha : In64 a) (hb : In64 b) (h : u a = u b) : a = b := by
  rw [← wrap_u_id ha, ← wrap_u_id hb, h]

theorem ofInt_u (a : Int) : (BitVec.ofInt 64 a).toNat = u a := by
  rw [BitVec.toNat_ofInt]; rfl
theorem and_i64 (a b : Int) : bits .and .i64 a b = wrap64 ((u a &&& u b : Nat) : Int) := by
  show IntKind.i64.wrap ((BitVec.ofInt 64 a &&& BitVec.ofInt 64 b).toNat : Int) = _
  rw [BitVec.toNat_and, ofInt_u, ofInt_u, IntWalk.i64_left]
theorem or_i64 (a b : Int) : bits .or .i64 a b = wrap64 ((u a ||| u b : Nat) : Int) := by
  show IntKind.i64.wrap ((BitVec.ofInt 64 a ||| BitVec.ofInt 64 b).toNat : Int) = _
  rw [BitVec.toNat_or, ofInt_u, ofInt_u, IntWalk.i64_left]
theorem xor_i64 (a b : Int) : bits .xor .i64 a b = wrap64 ((u a ^^^ u b : Nat) : Int) := by
  show IntKind.i64.wrap ((BitVec.ofInt 64 a ^^^ BitVec.ofInt 64 b).toNat : Int) = _
  rw [BitVec.toNat_xor, ofInt_u, ofInt_u, IntWalk.i64_left]
theorem in_and (a b : Int) : In64 (ap 6 a b) := by rw [ap6, and_i64]; exact wrap_in _
theorem in_or (a b : Int) : In64 (ap 7 a b) := by rw [ap7, or_i64]; exact wrap_in _
theorem in_xor (a b : Int) : In64 (ap 8 a b) := by rw [ap8, xor_i64]; exact wrap_in _
theorem and_lt (a b : Int) : u a &&& u b < 18446744073709551616 := Nat.and_lt_two_pow (n := 64) _ (u_lt' b)
theorem or_lt (a b : Int) : u a ||| u b < 18446744073709551616 := Nat.or_lt_two_pow (n := 64) (u_lt' a) (u_lt' b)
theorem xor_lt (a b : Int) : u a ^^^ u b < 18446744073709551616 := Nat.xor_lt_two_pow (n := 64) (u_lt' a) (u_lt' b)
theorem u_and (a b : Int) : u (ap 6 a b) = u a &&& u b := by rw [ap6, and_i64, u_wrap, u_nat _ (and_lt a b)]
theorem u_or (a b : Int) : u (ap 7 a b) = u a ||| u b := by rw [ap7, or_i64, u_wrap, u_nat _ (or_lt a b)]
theorem u_xor (a b : Int) : u (ap 8 a b) = u a ^^^ u b := by rw [ap8, xor_i64, u_wrap, u_nat _ (xor_lt a b)]

/-- What two numbers share and what they have together. -/
theorem nat_shares : ∀ (n x y : Nat), x < 2 ^ n → y < 2 ^ n → (x &&& y) + (x ||| y) = x + y ∧ (x ^^^ y) + (x &&& y) = (x ||| y)
  | 0, x, y, hx, hy => by
    have : x = 0 := by omega
    have : y = 0 := by omega
    subst x y; simp
  | n + 1, x, y, hx, hy => by
    have ih := nat_shares n (x / 2) (y / 2) (by omega) (by omega)
    have a1 : (x &&& y) / 2 = x / 2 &&& y / 2 := Nat.and_div_two
    have a2 : (x ||| y) / 2 = x / 2 ||| y / 2 := Nat.or_div_two
    have a3 : (x ^^^ y) / 2 = x / 2 ^^^ y / 2 := Nat.xor_div_two
    have b1 : (x &&& y) % 2 = x % 2 &&& y % 2 := Nat.and_mod_two_pow (n := 1)
    have b2 : (x ||| y) % 2 = x % 2 ||| y % 2 := Nat.or_mod_two_pow (n := 1)
    have b3 : (x ^^^ y) % 2 = x % 2 ^^^ y % 2 := Nat.xor_mod_two_pow (n := 1)
    rw [← a1, ← a2, ← a3] at ih
    rcases Nat.mod_two_eq_zero_or_one x with hx' | hx' <;> rcases Nat.mod_two_eq_zero_or_one y with hy' | hy' <;> rw [hx', hy'] at b1 b2 b3 <;> simp only [Nat.and_self, Nat.zero_and, Nat.and_zero, Nat.or_self, Nat.zero_or, Nat.or_zero, Nat.xor_self, Nat.zero_xor, Nat.xor_zero] at b1 b2 b3 <;> omega

theorem bits_sum (a b : Int) : ap 1 (ap 6 a b) (ap 7 a b) = ap 1 a b := by
  have h := (nat_shares 64 (u a) (u b) (u_lt' a) (u_lt' b)).1
  rw [ap1, ap1, ap6, ap7, and_i64, or_i64, wrap_wrap_add, wrap_add_wrap, ← Int.natCast_add, h, Int.natCast_add, ← wrap_wrap_add, wrap_u, wrap_wrap_add, ← wrap_add_wrap, wrap_u, wrap_add_wrap]
theorem bits_xor (a b : Int) : ap 8 a b = ap 2 (ap 7 a b) (ap 6 a b) := by
  have h := (nat_shares 64 (u a) (u b) (u_lt' a) (u_lt' b)).2
  rw [ap2, ap8, ap6, ap7, and_i64, or_i64, xor_i64, wrap_wrap_sub, wrap_sub_wrap]
  congr 1; omega
theorem bits_ao (a b : Int) (h : In64 a) : ap 6 a (ap 7 a b) = a := by
  refine u_inj (in_and _ _) h ?_
  rw [u_and, u_or]
  exact Nat.eq_of_testBit_eq fun i => by simp [Nat.testBit_and, Nat.testBit_or]; exact fun h1 => Or.inl h1
theorem bits_oa (a b : Int) (h : In64 a) : ap 7 a (ap 6 a b) = a := by
  refine u_inj (in_or _ _) h ?_
  rw [u_or, u_and]
  exact Nat.eq_of_testBit_eq fun i => by simp [Nat.testBit_and, Nat.testBit_or]; exact fun h1 _ => h1
theorem bits_bo (a b : Int) (h : In64 b) : ap 6 b (ap 7 a b) = b := by
  refine u_inj (in_and _ _) h ?_
  rw [u_and, u_or]
  exact Nat.eq_of_testBit_eq fun i => by simp [Nat.testBit_and, Nat.testBit_or]; exact fun h1 => Or.inr h1
theorem bits_ba (a b : Int) (h : In64 b) : ap 7 b (ap 6 a b) = b := by
  refine u_inj (in_or _ _) h ?_
  rw [u_or, u_and]
  exact Nat.eq_of_testBit_eq fun i => by simp [Nat.testBit_and, Nat.testBit_or]

theorem pow_lt (s : Nat) (h : s < 64) : 2 ^ s < 18446744073709551616 := Nat.pow_lt_pow_right (m := s) (n := 64) (by decide) h
theorem ap9_one (k : Int) : ap 9 1 k = wrap64 ((2 ^ six k : Nat) : Int) := by
  rw [ap9, Int.one_mul, Int.natCast_pow]; rfl
theorem u_one (k : Int) : u (ap 9 1 k) = 2 ^ six k := by rw [ap9_one, u_wrap, u_nat _ (pow_lt _ (six_lt k))]
theorem one_ne (k : Int) : ap 9 1 k ≠ 0 := by
  intro h
  have h1 := u_one k
  rw [h] at h1
  have h2 : 0 < 2 ^ six k := Nat.two_pow_pos _
  have h3 : u 0 = 0 := by unfold u; rfl
  omega
theorem u_bit (a k : Int) : u (ap 6 a (ap 9 1 k)) = if (u a).testBit (six k) then 2 ^ six k else 0 := by
  rw [u_and, u_one, nat_bit, Nat.testBit_eq_decide_div_mod_eq]
  rcases Nat.mod_two_eq_zero_or_one (u a / 2 ^ six k) with h | h <;> rw [h] <;> simp
theorem in_one (k : Int) : In64 (ap 9 1 k) := by rw [ap9]; exact wrap_in _
theorem bit_one (a k : Int) : (ap 6 a (ap 9 1 k) = ap 9 1 k) ↔ (u a).testBit (six k) = true := by
  have h2 : 0 < 2 ^ six k := Nat.two_pow_pos _
  constructor
  · intro h
    have h1 := u_bit a k
    rw [h, u_one] at h1
    cases ht : (u a).testBit (six k)
    · rw [ht] at h1; simp at h1
    · rfl
  · intro h
    refine u_inj (in_and _ _) (in_one _) ?_
    rw [u_bit, h, u_one]; simp
theorem bit_or_none (a k : Int) : ap 6 a (ap 9 1 k) = 0 ∨ ap 6 a (ap 9 1 k) = ap 9 1 k := by
  cases ht : (u a).testBit (six k)
  · left
    refine u_inj (in_and _ _) (by unfold In64; omega) ?_
    rw [u_bit, ht]; unfold u; rfl
  · right; exact (bit_one a k).2 ht
theorem bit_both (a b k : Int) : (ap 6 (ap 6 a b) (ap 9 1 k) = ap 9 1 k) ↔ (ap 6 a (ap 9 1 k) = ap 9 1 k ∧ ap 6 b (ap 9 1 k) = ap 9 1 k) := by
  rw [bit_one, bit_one, bit_one, u_and, Nat.testBit_and]
  simp
end Go.Proofs.YtanmpioplckgbaaDoor
