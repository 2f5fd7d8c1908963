import Derived.Test.YtehblpbefkopbaaDoorFacts
import Derived.Lib.Mul64
import Derived.Laws.Bits64b
import Derived.Test.YtehblpbefkopbaaDoorRows
import Derived.Test.YtehblpbefkopbaaDoorXeC
import Derived.OpenShut
import Derived.WalkLawsBesides
import Derived.Laws.BytesString
import Derived.Test.YtehblpbefkopbaaDoorYaP
import Derived.Test.YtehblpbefkopbaaDoorXqC
import Derived.Test.YtehblpbefkopbaaDoorXqB
import Derived.Test.YtehblpbefkopbaaDoorYaQ
import Derived.Test.YtehblpbefkopbaaDoorYaR
namespace Go.Proofs.YtehblpbefkopbaaDoor
open Go.RowKit

/-- A number of int64 without its sign: modulo 2^64. -/
def u (a : Int) : Nat := (a % 18446744073709551616).toNat

theorem u_lt (a : Int) : u a < 18446744073709551616 := by unfold u; omega
theorem u_lt' (a : Int) : u a < 2 ^ 64 := u_lt a
theorem wrap_u (a : Int) : wrap64 ((u a : Nat) : Int) = wrap64 a := by
  refine wrap_congr ⟨-(a / 18446744073709551616), ?_⟩; unfold u; omega
theorem wrap_u_id {a : Int} (h : In64 a) : wrap64 ((u a : Nat) : Int) = a := by rw [wrap_u, wrap_id h]
theorem u_wrap (n : Int) : u (wrap64 n) = u n := by unfold u wrap64; omega
theorem u_nat (n : Nat) (h : n < 18446744073709551616) : u ((n : Nat) : Int) = n := by unfold u; omega
theorem u_inj {a b : Int} (ha : In64 a) (hb : In64 b) (h : u a = u b) : a = b := by
  rw [← wrap_u_id ha, ← wrap_u_id hb, h]

theorem ofInt_u (a : Int) : (BitVec.ofInt 64 a).toNat = u a := by
  rw [BitVec.toNat_ofInt]; rfl
theorem and_i64 (a b : Int) : bits .and .i64 a b = wrap64 ((u a &&& u b : Nat) : Int) := by
  show IntKind.i64.wrap ((BitVec.ofInt 64 a &&& BitVec.ofInt 64 b).toNat : Int) = _
  rw [BitVec.toNat_and, ofInt_u, ofInt_u, IntWalk.i64_left]
theorem or_i64 (a b : Int) : bits .or .i64 a b = wrap64 ((u a ||| u b : Nat) : Int) := by
  show IntKind.i64.wrap ((BitVec.ofInt 64 a ||| BitVec.ofInt 64 b).toNat : Int) = _
  rw [BitVec.toNat_or, ofInt_u, ofInt_u, IntWalk.i64_left]
theorem xor_i64 (a b : Int) : bits .xor .i64 a b = wrap64 ((u a ^^^ u b : Nat) : Int) := by
  show IntKind.i64.wrap ((BitVec.ofInt 64 a ^^^ BitVec.ofInt 64 b).toNat : Int) = _
  rw [BitVec.toNat_xor, ofInt_u, ofInt_u, IntWalk.i64_left]
theorem in_and (a b : Int) : In64 (ap 6 a b) := by rw [ap6, and_i64]; exact wrap_in _
theorem in_or (a b : Int) : In64 (ap 7 a b) := by rw [ap7, or_i64]; exact wrap_in _
theorem in_xor (a b : Int) : In64 (ap 8 a b) := by rw [ap8, xor_i64]; exact wrap_in _
theorem and_lt (a b : Int) : u a &&& u b < 18446744073709551616 := Nat.and_lt_two_pow (n := 64) _ (u_lt' b)
theorem or_lt (a b : Int) : u a ||| u b < 18446744073709551616 := Nat.or_lt_two_pow (n := 64) (u_lt' a) (u_lt' b)
theorem xor_lt (a b : Int) : u a ^^^ u b < 18446744073709551616 := Nat.xor_lt_two_pow (n := 64) (u_lt' a) (u_lt' b)
theorem u_and (a b : Int) : u (ap 6 a b) = u a &&& u b := by rw [ap6, and_i64, u_wrap, u_nat _ (and_lt a b)]
theorem u_or (a b : Int) : u (ap 7 a b) = u a ||| u b := by rw [ap7, or_i64, u_wrap, u_nat _ (or_lt a b)]
theorem u_xor (a b : Int) : u (ap 8 a b) = u a ^^^ u b := by rw [ap8, xor_i64, u_wrap, u_nat _ (xor_lt a b)]

/-- What two numbers share and what they have together. -/
theorem nat_shares : ∀ (n x y : Nat), x < 2 ^ n → y < 2 ^ n → (x &&& y) + (x ||| y) = x + y ∧ (x ^^^ y) + (x &&& y) = (x ||| y)
  | 0, x, y, hx, hy => by
    have : x = 0 := by omega
    have : y = 0 := by omega
    subst x y; simp
  | n + 1, x, y, hx, hy => by
    have ih := nat_shares n (x / 2) (y / 2) (by omega) (by omega)
    have a1 : (x &&& y) / 2 = x / 2 &&& y / 2 := Nat.and_div_two
    have a2 : (x ||| y) / 2 = x / 2 ||| y / 2 := Nat.or_div_two
    have a3 : (x ^^^ y) / 2 = x / 2 ^^^ y / 2 := Nat.xor_div_two
    have b1 : (x &&& y) % 2 = x % 2 &&& y % 2 := Nat.and_mod_two_pow (n := 1)
    have b2 : (x ||| y) % 2 = x % 2 ||| y % 2 := Nat.or_mod_two_pow (n := 1)
    have b3 : (x ^^^ y) % 2 = x % 2 ^^^ y % 2 := Nat.xor_mod_two_pow (n := 1)
    rw [← a1, ← a2, ← a3] at ih
    rcases Nat.mod_two_eq_zero_or_one x with hx' | hx' <;> rcases Nat.mod_two_eq_zero_or_one y with hy' | hy' <;> rw [hx', hy'] at b1 b2 b3 <;> simp only [Nat.and_self, Nat.zero_and, Nat.and_zero, Nat.or_self, Nat.zero_or, Nat.or_zero, Nat.xor_self, Nat.zero_xor, Nat.xor_zero] at b1 b2 b3 <;> omega

theorem bits_sum (a b : Int) : ap 1 (ap 6 a b) (ap 7 a b) = ap 1 a b := by
  have h := (nat_shares 64 (u a) (u b) (u_lt' a) (u_lt' b)).1
  rw [ap1, ap1, ap6, ap7, and_i64, or_i64, wrap_wrap_add, wrap_add_wrap, ← Int.natCast_add, h, Int.natCast_add, ← wrap_wrap_add, wrap_u, wrap_wrap_add, ← wrap_add_wrap, wrap_u, wrap_add_wrap]
theorem bits_xor (a b : Int) : ap 8 a b = ap 2 (ap 7 a b) (ap 6 a b) := by
  have h := (nat_shares 64 (u a) (u b) (u_lt' a) (u_lt' b)).2
  rw [ap2, ap8, ap6, ap7, and_i64, or_i64, xor_i64, wrap_wrap_sub, wrap_sub_wrap]
  congr 1; omega
theorem bits_ao (a b : Int) (h : In64 a) : ap 6 a (ap 7 a b) = a := by
  refine u_inj (in_and _ _) h ?_
  rw [u_and, u_or]
  exact Nat.eq_of_testBit_eq fun i => by simp [Nat.testBit_and, Nat.testBit_or]; exact fun h1 => Or.inl h1
theorem bits_oa (a b : Int) (h : In64 a) : ap 7 a (ap 6 a b) = a := by
  refine u_inj (in_or _ _) h ?_
  rw [u_or, u_and]
  exact Nat.eq_of_testBit_eq fun i => by simp [Nat.testBit_and, Nat.testBit_or]; exact fun h1 _ => h1
theorem bits_bo (a b : Int) (h : In64 b) : ap 6 b (ap 7 a b) = b := by
  refine u_inj (in_and _ _) h ?_
  rw [u_and, u_or]
  exact Nat.eq_of_testBit_eq fun i => by simp [Nat.testBit_and, Nat.testBit_or]; exact fun h1 => Or.inr h1
theorem bits_ba (a b : Int) (h : In64 b) : ap 7 b (ap 6 a b) = b := by
  refine u_inj (in_or _ _) h ?_
  rw [u_or, u_and]
  exact Nat.eq_of_testBit_eq fun i => by simp [Nat.testBit_and, Nat.testBit_or]

theorem pow_lt (s : Nat) (h : s < 64) : 2 ^ s < 18446744073709551616 := Nat.pow_lt_pow_right (m := s) (n := 64) (by decide) h
theorem ap9_one (k : Int) : ap 9 1 k = wrap64 ((2 ^ six k : Nat) : Int) := by
  rw [ap9, Int.one_mul, Int.natCast_pow]; rfl
theorem u_one (k : Int) : u (ap 9 1 k) = 2 ^ six k := by rw [ap9_one, u_wrap, u_nat _ (pow_lt _ (six_lt k))]
theorem one_ne (k : Int) : ap 9 1 k ≠ 0 := by
  intro h
  have h1 := u_one k
  rw [h] at h1
  have h2 : 0 < 2 ^ six k := Nat.two_pow_pos _
  have h3 : u 0 = 0 := by unfold u; rfl
  omega
theorem u_bit (a k : Int) : u (ap 6 a (ap 9 1 k)) = if (u a).testBit (six k) then 2 ^ six k else 0 := by
  rw [u_and, u_one, nat_bit, Nat.testBit_eq_decide_div_mod_eq]
  rcases Nat.mod_two_eq_zero_or_one (u a / 2 ^ six k) with h | h <;> rw [h] <;> simp
theorem in_one (k : Int) : In64 (ap 9 1 k) := by rw [ap9]; exact wrap_in _
theorem bit_one (a k : Int) : (ap 6 a (ap 9 1 k) = ap 9 1 k) ↔ (u a).testBit (six k) = true := by
  have h2 : 0 < 2 ^ six k := Nat.two_pow_pos _
  constructor
  · intro h
    have h1 := u_bit a k
    rw [h, u_one] at h1
    cases ht : (u a).testBit (six k)
    · rw [ht] at h1; simp at h1
    · rfl
  · intro h
    refine u_inj (in_and _ _) (in_one _) ?_
    rw [u_bit, h, u_one]; simp
theorem bit_or_none (a k : Int) : ap 6 a (ap 9 1 k) = 0 ∨ ap 6 a (ap 9 1 k) = ap 9 1 k := by
  cases ht : (u a).testBit (six k)
  · left
    refine u_inj (in_and _ _) (by unfold In64; omega) ?_
    rw [u_bit, ht]; unfold u; rfl
  · right; exact (bit_one a k).2 ht
theorem bit_both (a b k : Int) : (ap 6 (ap 6 a b) (ap 9 1 k) = ap 9 1 k) ↔ (ap 6 a (ap 9 1 k) = ap 9 1 k ∧ ap 6 b (ap 9 1 k) = ap 9 1 k) := by
  rw [bit_one, bit_one, bit_one, u_and, Nat.testBit_and]
  simp
end Go.Proofs.YtehblpbefkopbaaDoor
namespace Go.Proofs.YtehblpbefkopbaaDoor
open Go.RowKit

theorem ret64 {a b : Int} (h : a = b) : Ending.returned (.int .i64 a) = .returned (.int .i64 b) := by rw [h]
theorem retU {a b : Int} (h : a = b) : Ending.returned (.int .u64 a) = .returned (.int .u64 b) := by rw [h]

/-- A whole number, stopped at the ends of int64. -/
def clamp (n : Int) : Int := if 9223372036854775807 < n then 9223372036854775807 else if n < -9223372036854775808 then -9223372036854775808 else n
theorem clamp_hi {n : Int} (h : 9223372036854775807 ≤ n) : (9223372036854775807 : Int) = clamp n := by unfold clamp; split <;> omega
theorem clamp_lo {n : Int} (h : n ≤ -9223372036854775808) : (-9223372036854775808 : Int) = clamp n := by unfold clamp; split <;> omega
theorem clamp_in {n m : Int} (e : m = n) (h1 : -9223372036854775808 ≤ n) (h2 : n ≤ 9223372036854775807) : m = clamp n := by unfold clamp; rw [if_neg (by omega), if_neg (by omega), e]
theorem clamp_in64 (n : Int) : In64 (clamp n) := by unfold clamp In64; split <;> omega

/-- The size of a number. -/
def mag (a : Int) : Int := (a.natAbs : Int)
theorem mag_neg {a : Int} (h : a < 0) (_h1 : -9223372036854775808 ≤ a) : IntKind.u64.wrap (-IntKind.u64.wrap a) = mag a := by
  rw [IntKind.wrap_u64, IntKind.wrap_u64]; unfold mag; omega
theorem mag_pos {a : Int} (h : 0 ≤ a) : a = mag a := by unfold mag; omega
theorem mag_in {a : Int} (h : In64 a) : 0 ≤ mag a ∧ mag a < 18446744073709551616 := by unfold In64 at h; unfold mag; omega

/-- Two halves of a product, and what they stand for. -/
def Prod128 (hi lo x y : Int) : Prop := hi * 18446744073709551616 + lo = x * y ∧ 0 ≤ hi ∧ 0 ≤ lo ∧ lo < 18446744073709551616
theorem prod_same {a b hi lo : Int} (h : Prod128 hi lo (mag a) (mag b)) (s : (a < 0) = (b < 0)) : a * b = hi * 18446744073709551616 + lo := by
  rw [h.1]; unfold mag
  by_cases g : a < 0
  · have g2 : b < 0 := by rw [← s]; exact g
    rw [show ((a.natAbs : Nat) : Int) = -a by omega, show ((b.natAbs : Nat) : Int) = -b by omega, Int.neg_mul_neg]
  · have g2 : ¬ b < 0 := by rw [← s]; exact g
    rw [show ((a.natAbs : Nat) : Int) = a by omega, show ((b.natAbs : Nat) : Int) = b by omega]
theorem prod_diff {a b hi lo : Int} (h : Prod128 hi lo (mag a) (mag b)) (s : (a < 0) ≠ (b < 0)) : a * b = -(hi * 18446744073709551616 + lo) := by
  rw [h.1]; unfold mag
  by_cases g : a < 0
  · have g2 : ¬ b < 0 := fun k => s (by simp [g, k])
    rw [show ((a.natAbs : Nat) : Int) = -a by omega, show ((b.natAbs : Nat) : Int) = b by omega, Int.neg_mul, Int.neg_neg]
  · have g2 : b < 0 := by
      by_cases k : b < 0
      · exact k
      · exact absurd (by simp [g, k]) s
    rw [show ((a.natAbs : Nat) : Int) = a by omega, show ((b.natAbs : Nat) : Int) = -b by omega, Int.mul_neg, Int.neg_neg]

theorem low32 (n : Nat) (h : n < 18446744073709551616) : bits .and .u64 (n : Int) 4294967295 = ((n % 4294967296 : Nat) : Int) := by
  rw [u64_and _ _ (by omega) (by omega) (by decide) (by decide), Int.toNat_natCast]
  exact congrArg _ (Nat.and_two_pow_sub_one_eq_mod n 32)
theorem cdiv (n : Nat) : (n : Int) / 4294967296 = ((n / 4294967296 : Nat) : Int) := by omega
theorem cmul (m n : Nat) : (m : Int) * (n : Int) = ((m * n : Nat) : Int) := (Int.natCast_mul m n).symm
theorem cadd (m n : Nat) : (m : Int) + (n : Int) = ((m + n : Nat) : Int) := (Int.natCast_add m n).symm
theorem cwrap (n : Nat) (h : n < 18446744073709551616) : IntKind.u64.wrap (n : Int) = (n : Int) := by rw [IntKind.wrap_u64]; omega
theorem cwrapM (n : Nat) : IntKind.u64.wrap (n : Int) = ((n % 18446744073709551616 : Nat) : Int) := by rw [IntKind.wrap_u64]; omega
theorem cmod (n : Nat) : (n : Int) % 4294967296 = ((n % 4294967296 : Nat) : Int) := by omega

theorem ctmod (n : Nat) : (n : Int).tmod 4294967296 = ((n % 4294967296 : Nat) : Int) := by
  rw [Int.tmod_eq_emod_of_nonneg (by omega)]; omega

theorem prod128_of (x y : Nat) : Prod128 ((x * y / 18446744073709551616 : Nat) : Int) ((x * y % 18446744073709551616 : Nat) : Int) x y := by
  refine ⟨?_, by omega, by omega, by omega⟩
  rw [← Int.natCast_mul]
  omega

/-! The document's sum in two halves. -/
theorem ref_high (a b : Int) (ha : In64 a) (hb : In64 b) : wrap64 (a / 4294967296 + b / 4294967296 + wrap64 (IntKind.u64.wrap ((IntKind.u64.wrap a).tmod 4294967296 + (IntKind.u64.wrap b).tmod 4294967296) / 4294967296)) = (a + b) / 4294967296 := by
  unfold In64 at ha hb
  rw [IntKind.wrap_u64 a, IntKind.wrap_u64 b, tmod_of_emod, tmod_of_emod, IntKind.wrap_u64]; unfold wrap64; omega
theorem ref_low (a b : Int) : wrap64 ((IntKind.u64.wrap ((IntKind.u64.wrap a).tmod 4294967296 + (IntKind.u64.wrap b).tmod 4294967296)).tmod 4294967296) = (a + b) % 4294967296 := by
  rw [IntKind.wrap_u64 a, IntKind.wrap_u64 b, tmod_of_emod, tmod_of_emod, IntKind.wrap_u64, tmod_of_emod]; unfold wrap64; omega

/-! The document's product: the carry of the three middle pieces. -/
theorem ref_prod (x y : Nat) (hx : x < 18446744073709551616) (hy : y < 18446744073709551616) :
    x / 4294967296 * (y / 4294967296) + x / 4294967296 * (y % 4294967296) / 4294967296 + x % 4294967296 * (y / 4294967296) / 4294967296 +
      (x % 4294967296 * (y % 4294967296) / 4294967296 + x / 4294967296 * (y % 4294967296) % 4294967296 + x % 4294967296 * (y / 4294967296) % 4294967296) / 4294967296 = x * y / 18446744073709551616 ∧
    x / 4294967296 * (y / 4294967296) + x / 4294967296 * (y % 4294967296) / 4294967296 + x % 4294967296 * (y / 4294967296) / 4294967296 < 18446744073709551616 := by
  have e := Lib.split_mul (x / 4294967296) (x % 4294967296) (y / 4294967296) (y % 4294967296) 4294967296
  rw [show x / 4294967296 * 4294967296 + x % 4294967296 = x by omega, show y / 4294967296 * 4294967296 + y % 4294967296 = y by omega] at e
  have ba := Lib.half_mul_le (a := x / 4294967296) (b := y / 4294967296) (by omega) (by omega)
  have bb := Lib.half_mul_le (a := x / 4294967296) (b := y % 4294967296) (by omega) (by omega)
  have bc := Lib.half_mul_le (a := x % 4294967296) (b := y / 4294967296) (by omega) (by omega)
  have bd := Lib.half_mul_le (a := x % 4294967296) (b := y % 4294967296) (by omega) (by omega)
  generalize x / 4294967296 * (y / 4294967296) = A at *
  generalize x / 4294967296 * (y % 4294967296) = B at *
  generalize x % 4294967296 * (y / 4294967296) = C at *
  generalize x % 4294967296 * (y % 4294967296) = D at *
  omega
end Go.Proofs.YtehblpbefkopbaaDoor
namespace Go.Proofs.YtehblpbefkopbaaDoor
open Go.ChangeShapes Go.WideShapes Go.ChangeAt Go.RowKit

theorem size_neg {a : Int} (h : a < 0) (h1 : -9223372036854775808 ≤ a) : -(a + 1) + 1 = mag a := by unfold mag; omega
theorem size_any (a : Int) (ha : In64 a) (w : World) :
    Calls Tryd.prog 50 #[.int .i64 a] w fun e w' => e = .returned (.int .u64 (mag a)) ∧ w' = w := by
  obtain ⟨h1, h2⟩ := ha
  by_cases c1 : a < 0
  · rw [← size_neg c1 h1]
    go_enter Tryd.func50, Tryd.ntmps50
    go_wp2
    go_ret
    exact ⟨rfl, rfl⟩
  · rw [← mag_pos (show 0 ≤ a by omega)]
    go_enter Tryd.func50, Tryd.ntmps50
    go_wp2
    go_ret
    exact ⟨rfl, rfl⟩

theorem one_byte (W : World) (x : Int) : (convert 54 9 (.slice (some ⟨W.heap.size, 0, none⟩) 1 1)).run Tryd.prog (W.alloc (.cells #[.int .u8 x] 5)) = .ok (.string ⟨#[UInt8.ofNat x.toNat]⟩) (W.alloc (.cells #[.int .u8 x] 5)) := by
  rw [run_convert_bytes_string _ _ _ 5 _ 1 1 Tryd.underlying54 Tryd.underlying5 Tryd.underlying9]
  refine (run_bytesToString _ _ 1 1 [x] ?_).trans rfl
  simp [loadCells, go_sem]
/-- The digits that are still to come. -/
def pre (u : Nat) : List UInt8 := if u = 0 then [] else Lib.decDigits u
theorem pre_start (U : Nat) : pre (U / 10) ++ [UInt8.ofNat (48 + U % 10)] = Lib.decDigits U := by
  unfold pre
  by_cases h : U < 10
  · rw [if_pos (by omega), dec_small h, show U % 10 = U by omega]; rfl
  · rw [if_neg (by omega), dec_big h]
theorem pre_step (u : Nat) (h : 0 < u) (l : List UInt8) : pre (u / 10) ++ (UInt8.ofNat (48 + u % 10) :: l) = pre u ++ l := by
  have e := pre_start u
  have e2 : pre u = Lib.decDigits u := by unfold pre; rw [if_neg (by omega)]
  rw [e2, ← e]; simp
theorem byte_list (x : Nat) (T : ByteArray) : (⟨#[UInt8.ofNat x]⟩ ++ T : ByteArray).toList = UInt8.ofNat x :: T.toList := by
  rw [list_of, ByteArray.data_append, Array.toList_append, ← list_of T]; rfl
theorem byte_sum (k : Nat) : 48 + UInt8.ofNat k = UInt8.ofNat (48 + k) := by rw [UInt8.ofNat_add]; rfl
theorem minus_list (T : ByteArray) : (⟨#[45]⟩ ++ T : ByteArray).toList = 45 :: T.toList := by
  rw [list_of, ByteArray.data_append, Array.toList_append, ← list_of T]; rfl
theorem byte_arg (u : Nat) : ((48 + (u : Int) % 10).toNat) = 48 + u % 10 := by omega

set_option maxHeartbeats 1000000 in
theorem refFormat_any (n : Int) (hn : In64 n) (w : World) :
    Calls Tryd.prog 35 #[.int .i64 n] w fun e w' => ∃ T : ByteArray, e = .returned (.string T) ∧ T.toList = Lib.itoa n ∧ Below w.heap.size w w' := by
  have hm := mag_in hn
  have hl := dec_len n.natAbs (by unfold In64 at hn; omega)
  have HI : Hid ((n < 0 → Lib.itoa n = 45 :: Lib.decDigits n.natAbs) ∧ (¬ n < 0 → Lib.itoa n = Lib.decDigits n.natAbs)) := ⟨itoa_neg', itoa_pos'⟩
  have hM : mag n = ((n.natAbs : Nat) : Int) := rfl
  have hU : n.natAbs < 18446744073709551616 := by unfold In64 at hn; omega
  clear hm
  generalize n.natAbs = U at *
  have HM : Hid (mag n = (U : Int)) := hM
  clear hM
  have hcv := one_byte
  go_enter Tryd.func35, Tryd.ntmps35
  go_wp2_with fail
  refine (size_any _ hn _).mono ?_
  rintro e w' ⟨rfl, rfl⟩
  rw [HM.out]
  go_wp2
  go_loopw [3, 4] (fun x y wr => ∃ (u : Nat) (T : ByteArray), x = .int .u64 u ∧ y = .string T ∧ u < 18446744073709551616 ∧ pre u ++ T.toList = Lib.decDigits U ∧ Below w'.heap.size w' wr) (fun x _ _ => (intOf x).toNat)
  case atStart => exact ⟨U / 10, _, by go_num, rfl, by omega, by first | (rw [list_of]; exact pre_start U) | (rw [byte_arg, list_of]; exact pre_start U) | (rw [byte_sum, list_of]; exact pre_start U), (Below.refl _ _).alloc (Nat.le_refl _) _⟩
  case round =>
    obtain ⟨u, T, rfl, rfl, hu, hp, hb⟩ := hrel
    have hts : T.size ≤ 19 := by
      have := congrArg List.length hp
      rw [List.length_append, list_len] at this
      omega
    have HP : Hid (_ = _) := hp
    have hz := hb.size
    clear hp
    by_cases hpos : 0 < u
    · go_wp2
      go_roundw
      case rel => exact ⟨u / 10, _, by go_num, rfl, by omega, by first | (rw [byte_arg, byte_list, pre_step u hpos]; exact HP.out) | (rw [byte_sum, byte_list, pre_step u hpos]; exact HP.out), hb.alloc hz _⟩
      case measure => simp [intOf]; omega
    · have h0 : u = 0 := by omega
      subst h0
      have HT : Hid (T.toList = Lib.decDigits U) := HP.out
      by_cases hneg : n < 0
      · go_wp2
        go_ret
        exact ⟨_, rfl, by rw [minus_list, HT.out, HI.out.1 hneg], hb⟩
      · go_wp2
        go_ret
        exact ⟨_, rfl, by rw [HT.out, HI.out.2 hneg], hb⟩
end Go.Proofs.YtehblpbefkopbaaDoor
namespace Go.Proofs.YtehblpbefkopbaaDoor
open Go.RowKit Go.ChangeShapes Go.WideShapes Go.ChangeAt Go.Deep
attribute [local go_sem] Oper.semAt_some run_store_nf run_store_f
/-! The document's text of an expression. -/
theorem wpQuiet_loadE {P : Program} {ops : Array Oper} {C : World → Prop} {Q : Act → Prop} {rest : List Oper} {o : Oper} {a : Act} (hw : Region.wanted o (yielded ops a.tmps) = true) (ty : TypeId) (x : Operand) (ho : o.op = .load ty x) (ad : Addr) (hx : a.eval x = .pointer (some ad)) (v : Value)
    (hr : ∀ w, C w → (loadVar ty ad).run P w = .ok v w) (h : wpQuiet P ops C Q rest (a.put o.dst v)) : wpQuiet P ops C Q (o :: rest) a :=
  BigFrame.wpQuiet_want hw fun K hK => ⟨v, fun w hC => by
    unfold Oper.quietAt execOp
    simp only [ho, hx, Instr.loadAt, Instr.sureAddr, Sem.run_bind, Sem.run_pure, Result.andThen_ok, hr w hC]
    exact ⟨rfl, rfl⟩, hK _ h⟩
theorem bs_cat (a b : Bs) : bs a ++ bs b = bs (a ++ b) := by
  apply ByteArray.ext
  simp [bs]
/-- A part of an expression, wherever it lies. -/
theorem arg_at {w : World} {p : Option Addr} {xs : List Value} {ps : List Tr} (hR : Rd w p xs) (hI : IL w ps xs) {i : Nat} {t : Tr} (h : ps[i]? = some t) : ∃ g o us, p = some ⟨g, o, none⟩ ∧ IE w t us ∧ ∀ W, Keeps (fun _ => False) w W → (loadVar 40 ⟨g, o + i * 4, none⟩).run Tryd.prog W = .ok (.agg us.toArray) W := by
  obtain ⟨us, hty, hyc⟩ := hI.at i t h
  obtain ⟨k2, n2, s2, p2, m2, c2, rfl⟩ := hty.shapeR
  obtain ⟨g, o, rfl, -⟩ := hR (i * 4) _ (hyc 0 _ rfl)
  refine ⟨g, o, _, rfl, hty, fun W k => run_er (fun j u e => ?_)⟩
  obtain ⟨g', o', eg, h6⟩ := hR _ _ (hyc j u e)
  injection eg with eg; injection eg with eg eo _; subst eg eo
  rw [Nat.add_assoc]
  exact k.cell h6 (fun e => e)
set_option maxHeartbeats 1000000 in
set_option maxRecDepth 100000 in
theorem rStg_any {w : World} {t : Tr} {l : List Value} (ht : IE w t l) : Calls Tryd.prog 37 #[.agg l.toArray] w fun e w' => e = .returned (.int .i64 (stE t : Int)) ∧ Keeps (fun _ => False) w w' := by
  obtain ⟨k, n, wd, ps⟩ := t
  unfold IE at ht
  obtain ⟨-, -, hw, p, c, xs, rfl, -, -⟩ := ht
  obtain ⟨m, hm⟩ : ∃ m, ps.length = m := ⟨_, rfl⟩
  rw [hm]
  clear hm
  have hSt := fun W => rStr_any wd hw W
  rw [show stE (.mk k n wd ps) = (if k = 5 ∨ k = 6 then 6 else if k = 7 then (bnd wd).1 else 7) from rfl]
  have q := CL.made w [.int .i64 k, .int .i64 n, .string (bs wd), .slice p m c] 40
  have y0 := q.c 0 _ rfl
  have y2 := q.c 2 _ rfl
  have ka := (Keeps.refl (fun _ => False) w).alloc (.cells ([.int .i64 k, .int .i64 n, .string (bs wd), .slice p m c] : List Value).toArray 40)
  clear q
  generalize (bnd wd).1 = sv at *
  generalize bs wd = W0 at *
  by_cases h5 : k = 5
  · subst h5
    go_enter Tryd.func37, Tryd.ntmps37
    go_wp2
    go_ret
    exact ⟨rfl, ka⟩
  by_cases h6 : k = 6
  · subst h6
    go_enter Tryd.func37, Tryd.ntmps37
    go_wp2
    go_ret
    exact ⟨rfl, ka⟩
  by_cases h7 : k = 7
  · subst h7
    go_enter Tryd.func37, Tryd.ntmps37
    go_wp2_with (go_at_call 38; refine (hSt _).mono ?_; rintro e w' ⟨rfl, rfl⟩)
    go_ret
    exact ⟨rfl, ka⟩
  rw [if_neg (by intro e; rcases e with e | e; exact h5 e; exact h6 e), if_neg h7]
  have d5 := beq_eq_false_iff_ne.2 h5
  have d6 := beq_eq_false_iff_ne.2 h6
  have d7 := beq_eq_false_iff_ne.2 h7
  clear h5 h6 h7
  go_enter Tryd.func37, Tryd.ntmps37
  go_wp2
  go_ret
  exact ⟨rfl, ka⟩
def ToE (t : Tr) : Prop := ∀ (w : World) (l : List Value), IE w t l → Calls Tryd.prog 22 #[.agg l.toArray] w fun e w' => e = .returned (.string (bs (pE t))) ∧ Keeps (fun _ => False) w w'
/-- A text that is no longer than memory lets be. -/
def Sh (x : Bs) : Prop := x.length ≤ 1099511627776
theorem pE_sh {t : Tr} (h : WfE t) (hb : bgE t ≤ 1048576) : Sh (pE t) := by
  have := pE_len h
  unfold Sh
  omega
set_option maxHeartbeats 1000000 in
set_option maxRecDepth 100000 in
theorem rOpd_any {w : World} {t : Tr} {l : List Value} (hT : ToE t) (hS : Sh (pE t)) (ht : IE w t l) (b : Bool) : Calls Tryd.prog 36 #[.agg l.toArray, .bool b] w fun e w' => e = .returned (.string (bs (brk b (pE t)))) ∧ Keeps (fun _ => False) w w' := by
  have hC := fun W (k : Keeps (fun _ => False) w W) => hT W l (ht.keep k)
  obtain ⟨k, n, s, p, m, c, rfl⟩ := ht.shapeR
  have q := CL.made w [.int .i64 k, .int .i64 n, .string s, .slice p m c] 40
  have ka := (Keeps.refl (fun _ => False) w).alloc (.cells ([.int .i64 k, .int .i64 n, .string s, .slice p m c] : List Value).toArray 40)
  have hCa := hC _ ka
  have hR := run_er (cl_at0 q)
  clear hC ht hT q
  unfold Sh at hS
  cases b
  · rw [show brk false (pE t) = pE t from rfl]
    generalize pE t = x at *
    go_enter Tryd.func36, Tryd.ntmps36
    go_wp2_with (first | (refine wpList_load_runL rfl 40 _ rfl ⟨w.heap.size, 0, none⟩ rfl _ hR ?_; clear hR) | (go_at_call 22; refine hCa.mono ?_; rintro e w1 ⟨rfl, k1⟩))
    go_ret
    exact ⟨rfl, ka.trans k1⟩
  · rw [show brk true (pE t) = [40] ++ (pE t ++ [41]) from rfl]
    generalize pE t = x at *
    have e : Hid (bs ([40] ++ (x ++ [41])) = (⟨#[40]⟩ ++ bs x) ++ ⟨#[41]⟩) := by show _ = _; rw [show (⟨#[40]⟩ : ByteArray) = bs [40] from rfl, show (⟨#[41]⟩ : ByteArray) = bs [41] from rfl, bs_cat, bs_cat, List.append_assoc]
    rw [e.out]
    have hz : (bs x).size ≤ 1099511627776 := hS
    obtain ⟨X, hX⟩ : ∃ X, bs x = X := ⟨_, rfl⟩
    rw [hX] at hz hCa ⊢
    clear hX e
    have z1 : (⟨#[40]⟩ ++ X : ByteArray).size = 1 + X.size := by rw [ByteArray.size_append]; rfl
    have z2 : (⟨#[40]⟩ : ByteArray).size = 1 := rfl
    have z3 : (⟨#[41]⟩ : ByteArray).size = 1 := rfl
    have h1 : ¬ ((⟨#[40]⟩ : ByteArray).size + X.size > 9223372036854775807) := by omega
    have h2 : ¬ ((⟨#[40]⟩ ++ X : ByteArray).size + (⟨#[41]⟩ : ByteArray).size > 9223372036854775807) := by omega
    have h3 : ¬ (9223372036854775807 < 1 + X.size) := by omega
    have h4 : ¬ (9223372036854775807 < (⟨#[40]⟩ ++ X : ByteArray).size + 1) := by omega
    go_enter Tryd.func36, Tryd.ntmps36
    go_wp2_with (first | (refine wpList_load_runL rfl 40 _ rfl ⟨w.heap.size, 0, none⟩ rfl _ hR ?_; clear hR) | (go_at_call 22; refine hCa.mono ?_; rintro e w1 ⟨rfl, k1⟩))
    go_ret
    exact ⟨rfl, ka.trans k1⟩
set_option maxHeartbeats 1000000 in
set_option maxRecDepth 100000 in
theorem told_num {n : Int} (hn : In64 n) : ToE (.mk 1 n [] []) := by
  intro w l ht
  rw [show pE (.mk 1 n [] []) = Lib.itoa n from rfl]
  unfold IE at ht
  obtain ⟨-, -, -, p, c, xs, rfl, -, -⟩ := ht
  rw [show ([] : List Tr).length = 0 from rfl]
  have hF := fun W => refFormat_any n hn W
  have q := CL.made w [.int .i64 1, .int .i64 n, .string (bs []), .slice p 0 c] 40
  have ka := (Keeps.refl (fun _ => False) w).alloc (.cells ([.int .i64 1, .int .i64 n, .string (bs []), .slice p 0 c] : List Value).toArray 40)
  have y0 := q.c 0 _ rfl
  have y1 := q.c 1 _ rfl
  clear q hn
  generalize bs [] = W0 at *
  go_enter Tryd.func22, Tryd.ntmps22
  go_wp2_with (go_at_call 35; refine (hF _).mono ?_; clear hF; rintro e w1 ⟨T, rfl, hT, b1⟩)
  go_ret
  have e : T = bs (Lib.itoa n) := by rw [← hT, list_of]; exact (bs_of T).symm
  exact ⟨by rw [← e]; rfl, ka.trans (Keeps.ofBelow b1)⟩
set_option maxHeartbeats 1000000 in
set_option maxRecDepth 100000 in
theorem told_name {wd : Bs} : ToE (.mk 2 0 wd []) := by
  intro w l ht
  rw [show pE (.mk 2 0 wd []) = wd from rfl]
  unfold IE at ht
  obtain ⟨-, -, -, p, c, xs, rfl, -, -⟩ := ht
  rw [show ([] : List Tr).length = 0 from rfl]
  have q := CL.made w [.int .i64 2, .int .i64 0, .string (bs wd), .slice p 0 c] 40
  have ka := (Keeps.refl (fun _ => False) w).alloc (.cells ([.int .i64 2, .int .i64 0, .string (bs wd), .slice p 0 c] : List Value).toArray 40)
  have y0 := q.c 0 _ rfl
  have y2 := q.c 2 _ rfl
  clear q
  generalize bs wd = W0 at *
  go_enter Tryd.func22, Tryd.ntmps22
  go_wp2
  go_ret
  exact ⟨rfl, ka⟩
set_option maxHeartbeats 1000000 in
set_option maxRecDepth 100000 in
theorem told_obj {a : Tr} (hT : ToE a) (hS : Sh (pE a)) : ToE (.mk 3 0 [] [a]) := by
  intro w l ht
  rw [show pE (.mk 3 0 [] [a]) = [91] ++ (pE a ++ [93]) from rfl]
  unfold IE at ht
  obtain ⟨-, -, -, p, c, xs, rfl, hget, hx⟩ := ht
  obtain ⟨g, o, us, rfl, hty, hrun⟩ := arg_at hget hx (i := 0) (t := a) rfl
  rw [Nat.zero_mul, Nat.add_zero] at hrun
  rw [show ([a] : List Tr).length = 1 from rfl]
  have q := CL.made w [.int .i64 3, .int .i64 0, .string (bs []), .slice (some ⟨g, o, none⟩) 1 c] 40
  have ka := (Keeps.refl (fun _ => False) w).alloc (.cells ([.int .i64 3, .int .i64 0, .string (bs []), .slice (some ⟨g, o, none⟩) 1 c] : List Value).toArray 40)
  have hP := hT _ us (hty.keep ka)
  have hR1 := hrun _ ka
  have y0 := q.c 0 _ rfl
  have y3 := q.c 3 _ rfl
  clear q hrun hget hx hT hty
  unfold Sh at hS
  generalize pE a = x at *
  generalize bs [] = W0 at *
  have e : Hid (bs ([91] ++ (x ++ [93])) = (⟨#[91]⟩ ++ bs x) ++ ⟨#[93]⟩) := by show _ = _; rw [show (⟨#[91]⟩ : ByteArray) = bs [91] from rfl, show (⟨#[93]⟩ : ByteArray) = bs [93] from rfl, bs_cat, bs_cat, List.append_assoc]
  rw [e.out]
  have hz : (bs x).size ≤ 1099511627776 := hS
  obtain ⟨X, hX⟩ : ∃ X, bs x = X := ⟨_, rfl⟩
  rw [hX] at hz hP ⊢
  clear hX e hS
  have z1 : (⟨#[91]⟩ ++ X : ByteArray).size = 1 + X.size := by rw [ByteArray.size_append]; rfl
  have z2 : (⟨#[91]⟩ : ByteArray).size = 1 := rfl
  have z3 : (⟨#[93]⟩ : ByteArray).size = 1 := rfl
  have h1 : ¬ ((⟨#[91]⟩ : ByteArray).size + X.size > 9223372036854775807) := by omega
  have h2 : ¬ ((⟨#[91]⟩ ++ X : ByteArray).size + (⟨#[93]⟩ : ByteArray).size > 9223372036854775807) := by omega
  have h3 : ¬ (9223372036854775807 < (⟨#[91]⟩ : ByteArray).size + X.size) := by omega
  have h4 : ¬ (9223372036854775807 < (⟨#[91]⟩ ++ X : ByteArray).size + (⟨#[93]⟩ : ByteArray).size) := by omega
  go_enter Tryd.func22, Tryd.ntmps22
  go_wp2_with (first | (refine wpList_load_runL rfl 40 _ rfl ⟨g, o, none⟩ rfl _ hR1 ?_; clear hR1) | (go_at_call 22; refine hP.mono ?_; clear hP; rintro e w1 ⟨rfl, k1⟩))
  go_ret
  exact ⟨rfl, ka.trans k1⟩
set_option maxHeartbeats 1000000 in
set_option maxRecDepth 100000 in
theorem told_tak {a : Tr} (hT : ToE a) (hS : Sh (pE a)) : ToE (.mk 4 0 [] [a]) := by
  intro w l ht
  rw [show pE (.mk 4 0 [] [a]) = [116, 97, 107, 101, 32, 91] ++ (pE a ++ [93]) from rfl]
  unfold IE at ht
  obtain ⟨-, -, -, p, c, xs, rfl, hget, hx⟩ := ht
  obtain ⟨g, o, us, rfl, hty, hrun⟩ := arg_at hget hx (i := 0) (t := a) rfl
  rw [Nat.zero_mul, Nat.add_zero] at hrun
  rw [show ([a] : List Tr).length = 1 from rfl]
  have q := CL.made w [.int .i64 4, .int .i64 0, .string (bs []), .slice (some ⟨g, o, none⟩) 1 c] 40
  have ka := (Keeps.refl (fun _ => False) w).alloc (.cells ([.int .i64 4, .int .i64 0, .string (bs []), .slice (some ⟨g, o, none⟩) 1 c] : List Value).toArray 40)
  have hP := hT _ us (hty.keep ka)
  have hR1 := hrun _ ka
  have y0 := q.c 0 _ rfl
  have y3 := q.c 3 _ rfl
  clear q hrun hget hx hT hty
  unfold Sh at hS
  generalize pE a = x at *
  generalize bs [] = W0 at *
  have e : Hid (bs ([116, 97, 107, 101, 32, 91] ++ (x ++ [93])) = (⟨#[116, 97, 107, 101, 32, 91]⟩ ++ bs x) ++ ⟨#[93]⟩) := by show _ = _; rw [show (⟨#[116, 97, 107, 101, 32, 91]⟩ : ByteArray) = bs [116, 97, 107, 101, 32, 91] from rfl, show (⟨#[93]⟩ : ByteArray) = bs [93] from rfl, bs_cat, bs_cat, List.append_assoc]
  rw [e.out]
  have hz : (bs x).size ≤ 1099511627776 := hS
  obtain ⟨X, hX⟩ : ∃ X, bs x = X := ⟨_, rfl⟩
  rw [hX] at hz hP ⊢
  clear hX e hS
  have z1 : (⟨#[116, 97, 107, 101, 32, 91]⟩ ++ X : ByteArray).size = 6 + X.size := by rw [ByteArray.size_append]; rfl
  have z2 : (⟨#[116, 97, 107, 101, 32, 91]⟩ : ByteArray).size = 6 := rfl
  have z3 : (⟨#[93]⟩ : ByteArray).size = 1 := rfl
  have h1 : ¬ ((⟨#[116, 97, 107, 101, 32, 91]⟩ : ByteArray).size + X.size > 9223372036854775807) := by omega
  have h2 : ¬ ((⟨#[116, 97, 107, 101, 32, 91]⟩ ++ X : ByteArray).size + (⟨#[93]⟩ : ByteArray).size > 9223372036854775807) := by omega
  have h3 : ¬ (9223372036854775807 < (⟨#[116, 97, 107, 101, 32, 91]⟩ : ByteArray).size + X.size) := by omega
  have h4 : ¬ (9223372036854775807 < (⟨#[116, 97, 107, 101, 32, 91]⟩ ++ X : ByteArray).size + (⟨#[93]⟩ : ByteArray).size) := by omega
  go_enter Tryd.func22, Tryd.ntmps22
  go_wp2_with (first | (refine wpList_load_runL rfl 40 _ rfl ⟨g, o, none⟩ rfl _ hR1 ?_; clear hR1) | (go_at_call 22; refine hP.mono ?_; clear hP; rintro e w1 ⟨rfl, k1⟩))
  go_ret
  exact ⟨rfl, ka.trans k1⟩
set_option maxHeartbeats 1000000 in
set_option maxRecDepth 100000 in
theorem told_neg {a : Tr} (hT : ToE a) (hS : Sh (pE a)) : ToE (.mk 5 0 [] [a]) := by
  intro w l ht
  rw [show pE (.mk 5 0 [] [a]) = [45] ++ brk (decide (stE a < 6)) (pE a) from rfl]
  unfold IE at ht
  obtain ⟨-, -, -, p, c, xs, rfl, hget, hx⟩ := ht
  obtain ⟨g, o, us, rfl, hty, hrun⟩ := arg_at hget hx (i := 0) (t := a) rfl
  rw [Nat.zero_mul, Nat.add_zero] at hrun
  rw [show ([a] : List Tr).length = 1 from rfl]
  have q := CL.made w [.int .i64 5, .int .i64 0, .string (bs []), .slice (some ⟨g, o, none⟩) 1 c] 40
  have ka := (Keeps.refl (fun _ => False) w).alloc (.cells ([.int .i64 5, .int .i64 0, .string (bs []), .slice (some ⟨g, o, none⟩) 1 c] : List Value).toArray 40)
  have HOP : Hid (∀ W, Keeps (fun _ => False) w W → Calls Tryd.prog 36 #[.agg us.toArray, .bool (decide (stE a < 6))] W fun e w' => e = .returned (.string (bs (brk (decide (stE a < 6)) (pE a)))) ∧ Keeps (fun _ => False) W w') := fun W k => rOpd_any hT hS (hty.keep k) _
  have HSG : Hid (∀ W, Keeps (fun _ => False) w W → Calls Tryd.prog 37 #[.agg us.toArray] W fun e w' => e = .returned (.int .i64 (stE a : Int)) ∧ Keeps (fun _ => False) W w') := fun W k => rStg_any (hty.keep k)
  have HRN : Hid (∀ W, Keeps (fun _ => False) w W → (loadVar 40 ⟨g, o, none⟩).run Tryd.prog W = .ok (.agg us.toArray) W) := hrun
  have e6 : decide ((stE a : Int) < 6) = decide (stE a < 6) := by by_cases h : stE a < 6 <;> simp [h] <;> omega
  have hl := brk_len (decide (stE a < 6)) (pE a)
  unfold Sh at hS
  have hz : (bs (brk (decide (stE a < 6)) (pE a))).size ≤ 1099511627778 := by rw [bs_size]; omega
  clear hrun hget hx hT hty hl hS
  generalize brk (decide (stE a < 6)) (pE a) = x at *
  generalize decide (stE a < 6) = b at *
  generalize stE a = st at *
  generalize bs [] = W0 at *
  have e : Hid (bs ([45] ++ x) = ⟨#[45]⟩ ++ bs x) := by show _ = _; rw [show (⟨#[45]⟩ : ByteArray) = bs [45] from rfl, bs_cat]
  rw [e.out]
  obtain ⟨X, hX⟩ : ∃ X, bs x = X := ⟨_, rfl⟩
  rw [hX] at hz HOP ⊢
  clear hX e
  have z2 : (⟨#[45]⟩ : ByteArray).size = 1 := rfl
  have h1 : ¬ ((⟨#[45]⟩ : ByteArray).size + X.size > 9223372036854775807) := by omega
  have h3 : ¬ (9223372036854775807 < (⟨#[45]⟩ : ByteArray).size + X.size) := by omega
  have y0 := q.c 0 _ rfl
  go_enter Tryd.func22, Tryd.ntmps22
  refine wp_seq_k (fun KK hKK => ?_)
  have hKH : Hid _ := hKK
  clear hKK
  go_wp2_with fail
  refine hKH.out _ _ ?_
  clear hKH KK
  generalize w.alloc (.cells #[.int .i64 5, .int .i64 0, .string W0, .slice (some ⟨g, o, none⟩) 1 c] 40) = W1 at *
  have Y3 := ks_cell (q.c 3 _ rfl)
  have hop := fun u : KS W1 => HOP.out u.1 (ka.trans u.2)
  have hsg := fun u : KS W1 => HSG.out u.1 (ka.trans u.2)
  have hqa : ∀ W, (∃ u : KS W1, W = u.1) → (loadVar 40 ⟨g, o, none⟩).run Tryd.prog W = .ok (.agg us.toArray) W := fun W ⟨u, hu⟩ => by rw [hu]; exact HRN.out _ (ka.trans u.2)
  have hNE : Nonempty (KS W1) := ⟨⟨W1, Keeps.refl _ W1⟩⟩
  go_wp2_with fail
  refine wp_region_ks (by kernel_rfl) (by kernel_rfl) ?_
  (repeat (first | go_big_quiet_skip | (refine wpQuiet_loadE (by kernel_rfl) 40 _ rfl ⟨g, o, none⟩ rfl _ hqa ?_; (try simp only [Act.put, List.setIfInBounds_toArray, List.set_cons_zero, List.set_cons_succ])) | go_big_quiet_step (first | (go_at_call 37; refine (hsg _).mono ?_; rintro e w9 ⟨rfl, k9⟩; exact ⟨rfl, ⟨_, (KS.property _).trans k9⟩, rfl⟩) | (go_at_call 36; refine (hop _).mono ?_; rintro e w9 ⟨rfl, k9⟩; exact ⟨rfl, ⟨_, (KS.property _).trans k9⟩, rfl⟩))))
  refine wpQuiet_nil ?_
  rintro _ ⟨U, rfl⟩
  have ku := U.property
  clear Y3 hNE hqa hop hsg
  generalize U.val = w6 at *
  go_wp2_with fail
  go_ret
  exact ⟨rfl, ka.trans ku⟩
set_option maxHeartbeats 1000000 in
set_option maxRecDepth 100000 in
theorem told_not {a : Tr} (hT : ToE a) (hS : Sh (pE a)) : ToE (.mk 6 0 [] [a]) := by
  intro w l ht
  rw [show pE (.mk 6 0 [] [a]) = [33] ++ brk (decide (stE a < 6)) (pE a) from rfl]
  unfold IE at ht
  obtain ⟨-, -, -, p, c, xs, rfl, hget, hx⟩ := ht
  obtain ⟨g, o, us, rfl, hty, hrun⟩ := arg_at hget hx (i := 0) (t := a) rfl
  rw [Nat.zero_mul, Nat.add_zero] at hrun
  rw [show ([a] : List Tr).length = 1 from rfl]
  have q := CL.made w [.int .i64 6, .int .i64 0, .string (bs []), .slice (some ⟨g, o, none⟩) 1 c] 40
  have ka := (Keeps.refl (fun _ => False) w).alloc (.cells ([.int .i64 6, .int .i64 0, .string (bs []), .slice (some ⟨g, o, none⟩) 1 c] : List Value).toArray 40)
  have HOP : Hid (∀ W, Keeps (fun _ => False) w W → Calls Tryd.prog 36 #[.agg us.toArray, .bool (decide (stE a < 6))] W fun e w' => e = .returned (.string (bs (brk (decide (stE a < 6)) (pE a)))) ∧ Keeps (fun _ => False) W w') := fun W k => rOpd_any hT hS (hty.keep k) _
  have HSG : Hid (∀ W, Keeps (fun _ => False) w W → Calls Tryd.prog 37 #[.agg us.toArray] W fun e w' => e = .returned (.int .i64 (stE a : Int)) ∧ Keeps (fun _ => False) W w') := fun W k => rStg_any (hty.keep k)
  have HRN : Hid (∀ W, Keeps (fun _ => False) w W → (loadVar 40 ⟨g, o, none⟩).run Tryd.prog W = .ok (.agg us.toArray) W) := hrun
  have e6 : decide ((stE a : Int) < 6) = decide (stE a < 6) := by by_cases h : stE a < 6 <;> simp [h] <;> omega
  have hl := brk_len (decide (stE a < 6)) (pE a)
  unfold Sh at hS
  have hz : (bs (brk (decide (stE a < 6)) (pE a))).size ≤ 1099511627778 := by rw [bs_size]; omega
  clear hrun hget hx hT hty hl hS
  generalize brk (decide (stE a < 6)) (pE a) = x at *
  generalize decide (stE a < 6) = b at *
  generalize stE a = st at *
  generalize bs [] = W0 at *
  have e : Hid (bs ([33] ++ x) = ⟨#[33]⟩ ++ bs x) := by show _ = _; rw [show (⟨#[33]⟩ : ByteArray) = bs [33] from rfl, bs_cat]
  rw [e.out]
  obtain ⟨X, hX⟩ : ∃ X, bs x = X := ⟨_, rfl⟩
  rw [hX] at hz HOP ⊢
  clear hX e
  have z2 : (⟨#[33]⟩ : ByteArray).size = 1 := rfl
  have h1 : ¬ ((⟨#[33]⟩ : ByteArray).size + X.size > 9223372036854775807) := by omega
  have h3 : ¬ (9223372036854775807 < (⟨#[33]⟩ : ByteArray).size + X.size) := by omega
  have y0 := q.c 0 _ rfl
  go_enter Tryd.func22, Tryd.ntmps22
  refine wp_seq_k (fun KK hKK => ?_)
  have hKH : Hid _ := hKK
  clear hKK
  go_wp2_with fail
  refine hKH.out _ _ ?_
  clear hKH KK
  generalize w.alloc (.cells #[.int .i64 6, .int .i64 0, .string W0, .slice (some ⟨g, o, none⟩) 1 c] 40) = W1 at *
  have Y3 := ks_cell (q.c 3 _ rfl)
  have hop := fun u : KS W1 => HOP.out u.1 (ka.trans u.2)
  have hsg := fun u : KS W1 => HSG.out u.1 (ka.trans u.2)
  have hqa : ∀ W, (∃ u : KS W1, W = u.1) → (loadVar 40 ⟨g, o, none⟩).run Tryd.prog W = .ok (.agg us.toArray) W := fun W ⟨u, hu⟩ => by rw [hu]; exact HRN.out _ (ka.trans u.2)
  have hNE : Nonempty (KS W1) := ⟨⟨W1, Keeps.refl _ W1⟩⟩
  go_wp2_with fail
  refine wp_region_ks (by kernel_rfl) (by kernel_rfl) ?_
  (repeat (first | go_big_quiet_skip | (refine wpQuiet_loadE (by kernel_rfl) 40 _ rfl ⟨g, o, none⟩ rfl _ hqa ?_; (try simp only [Act.put, List.setIfInBounds_toArray, List.set_cons_zero, List.set_cons_succ])) | go_big_quiet_step (first | (go_at_call 37; refine (hsg _).mono ?_; rintro e w9 ⟨rfl, k9⟩; exact ⟨rfl, ⟨_, (KS.property _).trans k9⟩, rfl⟩) | (go_at_call 36; refine (hop _).mono ?_; rintro e w9 ⟨rfl, k9⟩; exact ⟨rfl, ⟨_, (KS.property _).trans k9⟩, rfl⟩))))
  refine wpQuiet_nil ?_
  rintro _ ⟨U, rfl⟩
  have ku := U.property
  clear Y3 hNE hqa hop hsg
  generalize U.val = w6 at *
  go_wp2_with fail
  go_ret
  exact ⟨rfl, ka.trans ku⟩
end Go.Proofs.YtehblpbefkopbaaDoor
namespace Go.Proofs.YtehblpbefkopbaaDoor
open Go.RowKit Go.ChangeShapes Go.WideShapes Go.ChangeAt Go.Deep
attribute [local go_sem] Oper.semAt_some run_store_nf run_store_f
/-! The document's text of a Binary. -/
theorem bnd_rel {w : Bs} (h : 0 < (bnd w).1) : ((bnd w).1 = 7 ↔ (bnd w).2 = 8) ∧ (bnd w).1 ≤ 7 ∧ ((bnd w).1 ≠ 7 → ∀ s : Nat, decide (s < (bnd w).2) = (decide (s < (bnd w).1) || (decide ((bnd w).1 = 3) && decide (s = 3)))) := by
  by_cases hm : w ∈ bnds.map (·.1)
  · have hx : ∃ x ∈ bnds, bnd w = x.2 := by
      have : ∀ l : List (Bs × Nat × Nat), w ∈ l.map (·.1) → ∃ x ∈ l, bndL l w = x.2 := by
        intro l
        induction l with
        | nil => intro h; cases h
        | cons a r ih =>
          intro h
          unfold bndL
          split
          · exact ⟨a, List.mem_cons_self .., rfl⟩
          · rename_i hn
            rw [List.map_cons, List.mem_cons] at h
            rcases h with h | h
            · exact absurd h.symm hn
            · obtain ⟨x, h1, h2⟩ := ih h
              exact ⟨x, List.mem_cons_of_mem _ h1, h2⟩
      exact this bnds hm
    obtain ⟨x, h1, h2⟩ := hx
    rw [h2]
    have hall : ∀ x ∈ bnds, (x.2.1 = 7 ↔ x.2.2 = 8) ∧ x.2.1 ≤ 7 ∧ ((x.2.1 = 3 ∧ x.2.2 = 4) ∨ (x.2.1 ≠ 3 ∧ x.2.1 = x.2.2) ∨ x.2.1 = 7) := by decide
    obtain ⟨g1, g2, g3⟩ := hall x h1
    refine ⟨g1, g2, fun h7 s => ?_⟩
    rcases g3 with ⟨a1, a2⟩ | ⟨a1, a2⟩ | a1
    · rw [a1, a2, Bool.eq_iff_iff]; simp; omega
    · rw [← a2, Bool.eq_iff_iff]; simp [a1]
    · exact absurd a1 h7
  · unfold bnd at h
    rw [bndL_none hm] at h
    exact absurd h (by decide)
set_option maxHeartbeats 4000000 in
set_option maxRecDepth 100000 in
theorem told_two {wd : Bs} {a b : Tr} (hb0 : 0 < (bnd wd).1) (hTa : ToE a) (hTb : ToE b) (hSa : Sh (pE a)) (hSb : Sh (pE b)) : ToE (.mk 7 0 wd [a, b]) := by
  intro w l ht
  obtain ⟨r1, r2, r3⟩ := bnd_rel hb0
  unfold IE at ht
  obtain ⟨-, -, hw, p, c, xs, rfl, hget, hx⟩ := ht
  obtain ⟨g, o, us, e1, htya, hruna⟩ := arg_at hget hx (i := 0) (t := a) rfl
  obtain ⟨g', o', us', e2, htyb, hrunb⟩ := arg_at hget hx (i := 1) (t := b) rfl
  rw [e1] at e2
  injection e2 with e2
  injection e2 with e2 e3 _
  subst e2 e3 e1
  rw [Nat.zero_mul, Nat.add_zero] at hruna
  rw [Nat.one_mul] at hrunb
  rw [show ([a, b] : List Tr).length = 2 from rfl]
  have hSt := fun W => rStr_any wd hw W
  have HPE : Hid (pE (.mk 7 0 wd [a, b]) = if (bnd wd).2 = 8 then wd ++ (40 :: (pE a ++ (44 :: 32 :: (pE b ++ [41])))) else brk (decide (stE a < (bnd wd).2)) (pE a) ++ (32 :: (wd ++ (32 :: brk (decide (stE b < (bnd wd).1 + 1)) (pE b))))) := by show _ = _; rw [pE]
  have HTA : Hid (∀ W, Keeps (fun _ => False) w W → Calls Tryd.prog 22 #[.agg us.toArray] W fun e w' => e = .returned (.string (bs (pE a))) ∧ Keeps (fun _ => False) W w') := fun W k => hTa W _ (htya.keep k)
  have HTB : Hid (∀ W, Keeps (fun _ => False) w W → Calls Tryd.prog 22 #[.agg us'.toArray] W fun e w' => e = .returned (.string (bs (pE b))) ∧ Keeps (fun _ => False) W w') := fun W k => hTb W _ (htyb.keep k)
  have HOA : Hid (∀ W, Keeps (fun _ => False) w W → Calls Tryd.prog 36 #[.agg us.toArray, .bool (decide (stE a < (bnd wd).2))] W fun e w' => e = .returned (.string (bs (brk (decide (stE a < (bnd wd).2)) (pE a)))) ∧ Keeps (fun _ => False) W w') := fun W k => rOpd_any hTa hSa (htya.keep k) _
  have HOB : Hid (∀ W, Keeps (fun _ => False) w W → Calls Tryd.prog 36 #[.agg us'.toArray, .bool (decide (stE b < (bnd wd).1 + 1))] W fun e w' => e = .returned (.string (bs (brk (decide (stE b < (bnd wd).1 + 1)) (pE b)))) ∧ Keeps (fun _ => False) W w') := fun W k => rOpd_any hTb hSb (htyb.keep k) _
  have HGA : Hid (∀ W, Keeps (fun _ => False) w W → Calls Tryd.prog 37 #[.agg us.toArray] W fun e w' => e = .returned (.int .i64 (stE a : Int)) ∧ Keeps (fun _ => False) W w') := fun W k => rStg_any (htya.keep k)
  have HGB : Hid (∀ W, Keeps (fun _ => False) w W → Calls Tryd.prog 37 #[.agg us'.toArray] W fun e w' => e = .returned (.int .i64 (stE b : Int)) ∧ Keeps (fun _ => False) W w') := fun W k => rStg_any (htyb.keep k)
  obtain ⟨k1, n1, s1, p1, m1, c1, rfl⟩ := htya.shapeR
  obtain ⟨k2, n2, s2, p2, m2, c2, rfl⟩ := htyb.shapeR
  have hRNa : ∀ W, Keeps (fun _ => False) w W → (loadVar 40 ⟨g, o, none⟩).run Tryd.prog W = .ok (.agg #[.int .i64 k1, .int .i64 n1, .string s1, .slice p1 m1 c1]) W := hruna
  have hRNb : ∀ W, Keeps (fun _ => False) w W → (loadVar 40 ⟨g, o + 4, none⟩).run Tryd.prog W = .ok (.agg #[.int .i64 k2, .int .i64 n2, .string s2, .slice p2 m2 c2]) W := hrunb
  clear hruna hrunb hget hx htya htyb hTa hTb
  have q := CL.made w [.int .i64 7, .int .i64 0, .string (bs wd), .slice (some ⟨g, o, none⟩) 2 c] 40
  have ka := (Keeps.refl (fun _ => False) w).alloc (.cells ([.int .i64 7, .int .i64 0, .string (bs wd), .slice (some ⟨g, o, none⟩) 2 c] : List Value).toArray 40)
  have hzw : (bs wd).size ≤ 140737488355328 := hw
  have la := brk_len (decide (stE a < (bnd wd).2)) (pE a)
  have lb := brk_len (decide (stE b < (bnd wd).1 + 1)) (pE b)
  unfold Sh at hSa hSb
  obtain ⟨sv, hsv⟩ : ∃ sv, (bnd wd).1 = sv := ⟨_, rfl⟩
  obtain ⟨sm, hsm⟩ : ∃ sm, (bnd wd).2 = sm := ⟨_, rfl⟩
  simp only [hsv, hsm] at *
  obtain ⟨W0, hW0⟩ : ∃ W0, bs wd = W0 := ⟨_, rfl⟩
  rw [hW0] at q ka hzw hSt ⊢
  have HW0 : Hid (bs wd = W0) := hW0
  obtain ⟨RES, hRES⟩ : ∃ R, bs (pE (.mk 7 0 wd [a, b])) = R := ⟨_, rfl⟩
  rw [hRES]
  have HRES : Hid (bs (pE (.mk 7 0 wd [a, b])) = RES) := hRES
  clear hsv hsm hW0 hRES hw
  obtain ⟨x0, hx0⟩ : ∃ x0, w.heap.size = x0 := ⟨_, rfl⟩
  rw [hx0] at q
  go_enter Tryd.func22, Tryd.ntmps22
  refine wp_seq_k (fun KK hKK => ?_)
  have hKH : Hid _ := hKK
  clear hKK
  go_wp2_with fail
  refine hKH.out _ _ ?_
  clear hKH KK
  generalize w.alloc (.cells #[.int .i64 7, .int .i64 0, .string W0, .slice (some ⟨g, o, none⟩) 2 c] 40) = W1 at *
  have y0 := q.c 0 _ rfl
  have y2 := q.c 2 _ rfl
  have y3 := q.c 3 _ rfl
  have k1W : Keeps (fun _ => False) w W1 := ka
  clear ka hx0
  refine wp_seq_k (fun KK hKK => ?_)
  have hKH : Hid _ := hKK
  clear hKK
  go_wp2_with fail
  refine hKH.out _ _ ?_
  clear hKH KK
  refine wp_seq_k (fun KK hKK => ?_)
  have hKH : Hid _ := hKK
  clear hKK
  go_wp2_with (go_at_call 38; refine (hSt _).mono ?_; rintro e wn ⟨rfl, hwn⟩; rw [hwn]; clear hwn wn)
  refine hKH.out _ _ ?_
  clear hKH KK hSt y0
  refine wp_seq_k (fun K2 hK2 => ?_)
  have rest : ∀ (v0 v2 v6 v7 v8 v9 v10 v11 v12 v13 v14 v15 v16 v17 v18 v19 v20 v21 v22 v23 v24 v25 v26 v27 v28 v29 v30 v31 v32 v33 v34 v35 v36 v37 v38 v39 v40 v41 v42 v43 v44 v45 v46 v47 v48 v49 v50 v51 v52 v53 v54 v55 v56 v57 v58 v59 v60 v61 v62 v63 v64 v65 v66 v67 v68 v69 v70 v71 v72 v73 v74 v75 v76 v77 v78 v79 v80 v81 v82 v83 v84 v85 v86 v87 v88 v89 v90 v91 v92 v93 v94 v95 v96 v97 v98 v99 v100 v101 v102 v103 v104 v105 v106 v107 v108 v109 v110 v111 v112 v113 v114 v115 : Value) (b6 b7 : Nat) (w6 : World), CL w6 b6 [.int .i64 k1, .int .i64 n1, .string s1, .slice p1 m1 c1] → CL w6 b7 [.int .i64 k2, .int .i64 n2, .string s2, .slice p2 m2 c2] → Keeps (fun _ => False) W1 w6 → K2 { tmps := (v0 :: (.pointer (some ⟨x0, 0, none⟩)) :: v2 :: (.int .i64 (sv : Int)) :: (.pointer (some ⟨b6, 0, none⟩)) :: (.pointer (some ⟨b7, 0, none⟩)) :: v6 :: v7 :: v8 :: v9 :: v10 :: v11 :: v12 :: v13 :: v14 :: v15 :: v16 :: v17 :: v18 :: v19 :: v20 :: v21 :: v22 :: v23 :: v24 :: v25 :: v26 :: v27 :: v28 :: v29 :: v30 :: v31 :: v32 :: v33 :: v34 :: v35 :: v36 :: v37 :: v38 :: v39 :: v40 :: v41 :: v42 :: v43 :: v44 :: v45 :: v46 :: v47 :: v48 :: v49 :: v50 :: v51 :: v52 :: v53 :: v54 :: v55 :: v56 :: v57 :: v58 :: v59 :: v60 :: v61 :: v62 :: v63 :: v64 :: v65 :: v66 :: v67 :: v68 :: v69 :: v70 :: v71 :: v72 :: v73 :: v74 :: v75 :: v76 :: v77 :: v78 :: v79 :: v80 :: v81 :: v82 :: v83 :: v84 :: v85 :: v86 :: v87 :: v88 :: v89 :: v90 :: v91 :: v92 :: v93 :: v94 :: v95 :: v96 :: v97 :: v98 :: v99 :: v100 :: v101 :: v102 :: v103 :: v104 :: v105 :: v106 :: v107 :: v108 :: v109 :: v110 :: v111 :: v112 :: v113 :: v114 :: v115 :: []).toArray, defers := [] } w6 := by
    intro v0 v2 v6 v7 v8 v9 v10 v11 v12 v13 v14 v15 v16 v17 v18 v19 v20 v21 v22 v23 v24 v25 v26 v27 v28 v29 v30 v31 v32 v33 v34 v35 v36 v37 v38 v39 v40 v41 v42 v43 v44 v45 v46 v47 v48 v49 v50 v51 v52 v53 v54 v55 v56 v57 v58 v59 v60 v61 v62 v63 v64 v65 v66 v67 v68 v69 v70 v71 v72 v73 v74 v75 v76 v77 v78 v79 v80 v81 v82 v83 v84 v85 v86 v87 v88 v89 v90 v91 v92 v93 v94 v95 v96 v97 v98 v99 v100 v101 v102 v103 v104 v105 v106 v107 v108 v109 v110 v111 v112 v113 v114 v115 b6 b7 w6 hc6 hc7 k6
    have hKI : Hid _ := hK2
    clear hK2
    refine hKI.out _ _ ?_
    clear hKI
    have Q6 := q.keep (by show 0 < 4; decide) k6 (fun e => e)
    have kw6 : Keeps (fun _ => False) w w6 := k1W.trans k6
    have hqa0 : ∀ W, Keeps (fun _ => False) w6 W → (loadVar 40 ⟨b6, 0, none⟩).run Tryd.prog W = .ok (.agg #[.int .i64 k1, .int .i64 n1, .string s1, .slice p1 m1 c1]) W := fun W k => run_er (cl_at0 (hc6.keep (by show 0 < 4; decide) k (fun e => e)))
    have hqb0 : ∀ W, Keeps (fun _ => False) w6 W → (loadVar 40 ⟨b7, 0, none⟩).run Tryd.prog W = .ok (.agg #[.int .i64 k2, .int .i64 n2, .string s2, .slice p2 m2 c2]) W := fun W k => run_er (cl_at0 (hc7.keep (by show 0 < 4; decide) k (fun e => e)))
    clear hc6 hc7 hRNa hRNb y2 y3
    by_cases h7 : sv = 7
    · have e7 : ((sv : Int) == 7) = true := by rw [h7]; rfl
      have e7' : (sv == 7) = true := by rw [h7]; rfl
      have hX : (bs (pE a)).size ≤ 1099511627776 := hSa
      have hY : (bs (pE b)).size ≤ 1099511627776 := hSb
      have HE : Hid (RES = ((((W0 ++ ⟨#[40]⟩) ++ bs (pE a)) ++ ⟨#[44, 32]⟩) ++ bs (pE b)) ++ ⟨#[41]⟩) := by
        show _ = _
        rw [← HRES.out, HPE.out, if_pos (r1.1 h7), ← HW0.out]
        rw [show (⟨#[40]⟩ : ByteArray) = bs [40] from rfl, show (⟨#[44, 32]⟩ : ByteArray) = bs [44, 32] from rfl, show (⟨#[41]⟩ : ByteArray) = bs [41] from rfl]
        rw [bs_cat, bs_cat, bs_cat, bs_cat, bs_cat]
        simp
      have hta0 := fun u : KS w6 => HTA.out u.1 (kw6.trans u.2)
      have htb0 := fun u : KS w6 => HTB.out u.1 (kw6.trans u.2)
      clear HTA HTB HOA HOB HGA HGB r1 r2 r3 h7 la lb HPE HRES HW0 hSa hSb hb0
      rw [HE.out]
      clear HE
      generalize bs (pE a) = X at *
      generalize bs (pE b) = Y at *
      have zl0 : (⟨#[40]⟩ : ByteArray).size = 1 := rfl
      have zl1 : (⟨#[44, 32]⟩ : ByteArray).size = 2 := rfl
      have zl2 : (⟨#[41]⟩ : ByteArray).size = 1 := rfl
      have u0 : ¬ ((W0 : ByteArray).size + (⟨#[40]⟩ : ByteArray).size > 9223372036854775807) := by (try simp only [ByteArray.size_append]); omega
      have t0 : ¬ (9223372036854775807 < (W0 : ByteArray).size + (⟨#[40]⟩ : ByteArray).size) := u0
      have u1 : ¬ ((W0 ++ ⟨#[40]⟩ : ByteArray).size + (X : ByteArray).size > 9223372036854775807) := by (try simp only [ByteArray.size_append]); omega
      have t1 : ¬ (9223372036854775807 < (W0 ++ ⟨#[40]⟩ : ByteArray).size + (X : ByteArray).size) := u1
      have u2 : ¬ (((W0 ++ ⟨#[40]⟩) ++ X : ByteArray).size + (⟨#[44, 32]⟩ : ByteArray).size > 9223372036854775807) := by (try simp only [ByteArray.size_append]); omega
      have t2 : ¬ (9223372036854775807 < ((W0 ++ ⟨#[40]⟩) ++ X : ByteArray).size + (⟨#[44, 32]⟩ : ByteArray).size) := u2
      have u3 : ¬ ((((W0 ++ ⟨#[40]⟩) ++ X) ++ ⟨#[44, 32]⟩ : ByteArray).size + (Y : ByteArray).size > 9223372036854775807) := by (try simp only [ByteArray.size_append]); omega
      have t3 : ¬ (9223372036854775807 < (((W0 ++ ⟨#[40]⟩) ++ X) ++ ⟨#[44, 32]⟩ : ByteArray).size + (Y : ByteArray).size) := u3
      have u4 : ¬ (((((W0 ++ ⟨#[40]⟩) ++ X) ++ ⟨#[44, 32]⟩) ++ Y : ByteArray).size + (⟨#[41]⟩ : ByteArray).size > 9223372036854775807) := by (try simp only [ByteArray.size_append]); omega
      have t4 : ¬ (9223372036854775807 < ((((W0 ++ ⟨#[40]⟩) ++ X) ++ ⟨#[44, 32]⟩) ++ Y : ByteArray).size + (⟨#[41]⟩ : ByteArray).size) := u4
      have Y2 := ks_cell (Q6.c 2 _ rfl)
      have hqa : ∀ W, (∃ u : KS w6, W = u.1) → (loadVar 40 ⟨b6, 0, none⟩).run Tryd.prog W = .ok (.agg #[.int .i64 k1, .int .i64 n1, .string s1, .slice p1 m1 c1]) W := fun W ⟨u, hu⟩ => by rw [hu]; exact hqa0 _ u.2
      have hqb : ∀ W, (∃ u : KS w6, W = u.1) → (loadVar 40 ⟨b7, 0, none⟩).run Tryd.prog W = .ok (.agg #[.int .i64 k2, .int .i64 n2, .string s2, .slice p2 m2 c2]) W := fun W ⟨u, hu⟩ => by rw [hu]; exact hqb0 _ u.2
      have hNE : Nonempty (KS w6) := ⟨⟨w6, Keeps.refl _ w6⟩⟩
      clear hqa0 hqb0 q Q6
      go_wp2_with fail
      refine wp_region_ks (by kernel_rfl) (by kernel_rfl) ?_
      (repeat (first | go_big_quiet_skip | (have hqx := hqa; refine wpQuiet_loadE (by kernel_rfl) 40 _ rfl ⟨b6, 0, none⟩ rfl _ hqx ?_; clear hqx hqa; (try simp only [Act.put, List.setIfInBounds_toArray, List.set_cons_zero, List.set_cons_succ])) | (have hqx := hqb; refine wpQuiet_loadE (by kernel_rfl) 40 _ rfl ⟨b7, 0, none⟩ rfl _ hqx ?_; clear hqx hqb; (try simp only [Act.put, List.setIfInBounds_toArray, List.set_cons_zero, List.set_cons_succ])) | go_big_quiet_step ((go_at_call 22; first | (with_reducible refine (hta0 _).mono ?_; rintro e w9 ⟨rfl, k9⟩; exact ⟨rfl, ⟨_, (KS.property _).trans k9⟩, rfl⟩) | (with_reducible refine (htb0 _).mono ?_; rintro e w9 ⟨rfl, k9⟩; exact ⟨rfl, ⟨_, (KS.property _).trans k9⟩, rfl⟩)))))
      refine wpQuiet_nil ?_
      rintro _ ⟨U, rfl⟩
      have ku := U.property
      clear Y2 hNE hta0 htb0
      (try clear hqa)
      (try clear hqb)
      generalize U.val = w8 at *
      go_wp2_with fail
      go_ret
      exact ⟨rfl, kw6.trans ku⟩
    · have e7 : ((sv : Int) == 7) = false := beq_eq_false_iff_ne.2 (by omega)
      have e7' : (sv == 7) = false := beq_eq_false_iff_ne.2 h7
      have hL := r3 h7 (stE a)
      have hX : (bs (brk (decide (stE a < sm)) (pE a))).size ≤ 1099511627778 := by rw [bs_size]; omega
      have hY : (bs (brk (decide (stE b < sv + 1)) (pE b))).size ≤ 1099511627778 := by rw [bs_size]; omega
      have HE : Hid (RES = ((((bs (brk (decide (stE a < sm)) (pE a)) ++ ⟨#[32]⟩) ++ W0) ++ ⟨#[32]⟩) ++ bs (brk (decide (stE b < sv + 1)) (pE b)))) := by
        show _ = _
        rw [← HRES.out, HPE.out, if_neg (fun e => h7 (r1.2 e)), ← HW0.out]
        rw [show (⟨#[32]⟩ : ByteArray) = bs [32] from rfl]
        rw [bs_cat, bs_cat, bs_cat, bs_cat]
        simp
      have eR : decide ((stE b : Int) ≤ (sv : Int)) = decide (stE b < sv + 1) := by by_cases h : stE b ≤ sv <;> simp <;> omega
      have eRn : decide (stE b ≤ sv) = decide (stE b < sv + 1) := by by_cases h : stE b ≤ sv <;> simp <;> omega
      have eA : decide ((stE a : Int) < (sv : Int)) = decide (stE a < sv) := by by_cases h : stE a < sv <;> simp
      have e3 : ((sv : Int) == 3) = decide (sv = 3) := by rw [beq_int]; exact dec_cast sv 3
      have e3' : (sv == 3) = decide (sv = 3) := beq_nat _ _
      have e4 : ((stE a : Int) == 3) = decide (stE a = 3) := by rw [beq_int]; exact dec_cast _ 3
      have e4' : (stE a == 3) = decide (stE a = 3) := beq_nat _ _
      clear HTA HTB r1 r2 r3 h7 la lb HPE HRES HW0 hSa hSb hb0
      rw [HE.out]
      clear HE
      generalize decide (stE a < sm) = L at *
      generalize bs (brk L (pE a)) = X at *
      generalize decide (stE b < sv + 1) = RB at *
      generalize bs (brk RB (pE b)) = Y at *
      have HXY : Hid (X.size ≤ 1099511627778 ∧ Y.size ≤ 1099511627778 ∧ W0.size ≤ 140737488355328) := ⟨hX, hY, hzw⟩
      clear hX hY hzw
      generalize hb1 : decide (stE a < sv) = b1 at *
      generalize decide (sv = 3) = b2 at *
      generalize decide (stE a = 3) = b3 at *
      generalize stE a = sa at *
      generalize stE b = sb at *
      have HeR : Hid (_ = RB ∧ _ = RB) := ⟨eR, eRn⟩
      clear eR eRn
      have hga := fun W (k : Keeps (fun _ => False) w6 W) => HGA.out W (kw6.trans k)
      have hqa1 := hqa0 w6 (Keeps.refl _ w6)
      have hga1 := hga w6 (Keeps.refl _ w6)
      cases b1
      · cases b2
        · have hL2 : L = false := hL
          clear hL
          subst hL2
          refine wp_seq_k (fun K8 hK8 => ?_)
          have hK8H : Hid _ := hK8
          clear hK8
          go_wp2_with fail
          refine hK8H.out _ _ ?_
          clear hK8H
          refine wp_seq_k (fun K8 hK8 => ?_)
          have hK8H : Hid _ := hK8
          clear hK8
          go_wp2_with (first | (refine wpList_load_runL rfl 40 _ rfl ⟨b6, 0, none⟩ rfl _ hqa1 ?_; clear hqa1) | (go_at_call 37; refine hga1.mono ?_; clear hga1; rintro e w7 ⟨rfl, k7⟩; have hqa2 := hqa0 w7 k7; have hga2 := hga w7 k7))
          refine hK8H.out _ _ ?_
          clear hK8H
          have kw8 : Keeps (fun _ => False) w w7 := kw6.trans k7
          obtain ⟨hX, hY, hzw⟩ := HXY.out
          obtain ⟨eR, eRn⟩ := HeR.out
          clear e3 e3' e4 e4' eA hb1 e7 e7'
          have zl0 : (⟨#[32]⟩ : ByteArray).size = 1 := rfl
          have u0 : ¬ ((X : ByteArray).size + (⟨#[32]⟩ : ByteArray).size > 9223372036854775807) := by (try simp only [ByteArray.size_append]); omega
          have t0 : ¬ (9223372036854775807 < (X : ByteArray).size + (⟨#[32]⟩ : ByteArray).size) := u0
          have u1 : ¬ ((X ++ ⟨#[32]⟩ : ByteArray).size + (W0 : ByteArray).size > 9223372036854775807) := by (try simp only [ByteArray.size_append]); omega
          have t1 : ¬ (9223372036854775807 < (X ++ ⟨#[32]⟩ : ByteArray).size + (W0 : ByteArray).size) := u1
          have u2 : ¬ (((X ++ ⟨#[32]⟩) ++ W0 : ByteArray).size + (⟨#[32]⟩ : ByteArray).size > 9223372036854775807) := by (try simp only [ByteArray.size_append]); omega
          have t2 : ¬ (9223372036854775807 < ((X ++ ⟨#[32]⟩) ++ W0 : ByteArray).size + (⟨#[32]⟩ : ByteArray).size) := u2
          have u3 : ¬ ((((X ++ ⟨#[32]⟩) ++ W0) ++ ⟨#[32]⟩ : ByteArray).size + (Y : ByteArray).size > 9223372036854775807) := by (try simp only [ByteArray.size_append]); omega
          have t3 : ¬ (9223372036854775807 < (((X ++ ⟨#[32]⟩) ++ W0) ++ ⟨#[32]⟩ : ByteArray).size + (Y : ByteArray).size) := u3
          have Y2 := ks_cell ((Q6.keep (by show 0 < 4; decide) k7 (fun e => e)).c 2 _ rfl)
          have hqa : ∀ W, (∃ u : KS w7, W = u.1) → (loadVar 40 ⟨b6, 0, none⟩).run Tryd.prog W = .ok (.agg #[.int .i64 k1, .int .i64 n1, .string s1, .slice p1 m1 c1]) W := fun W ⟨u, hu⟩ => by rw [hu]; exact hqa0 _ (k7.trans u.2)
          have hqb : ∀ W, (∃ u : KS w7, W = u.1) → (loadVar 40 ⟨b7, 0, none⟩).run Tryd.prog W = .ok (.agg #[.int .i64 k2, .int .i64 n2, .string s2, .slice p2 m2 c2]) W := fun W ⟨u, hu⟩ => by rw [hu]; exact hqb0 _ (k7.trans u.2)
          have hoa := fun u : KS w7 => HOA.out u.1 (kw8.trans u.2)
          have hob := fun u : KS w7 => HOB.out u.1 (kw8.trans u.2)
          have hgb := fun u : KS w7 => HGB.out u.1 (kw8.trans u.2)
          have hNE : Nonempty (KS w7) := ⟨⟨w7, Keeps.refl _ _⟩⟩
          clear hqa0 hqb0 q Q6
          (try go_wp2_with fail)
          refine wp_region_ks (by kernel_rfl) (by kernel_rfl) ?_
          (repeat (first | go_big_quiet_skip | (have hqx := hqa; refine wpQuiet_loadE (by kernel_rfl) 40 _ rfl ⟨b6, 0, none⟩ rfl _ hqx ?_; clear hqx hqa; (try simp only [Act.put, List.setIfInBounds_toArray, List.set_cons_zero, List.set_cons_succ])) | (refine wpQuiet_loadE (by kernel_rfl) 40 _ rfl ⟨b7, 0, none⟩ rfl _ hqb ?_; (try simp only [Act.put, List.setIfInBounds_toArray, List.set_cons_zero, List.set_cons_succ])) | go_big_quiet_step (first | (go_at_call 37; with_reducible refine (hgb _).mono ?_; rintro e w9 ⟨rfl, k9⟩; exact ⟨rfl, ⟨_, (KS.property _).trans k9⟩, rfl⟩) | (go_at_call 36; first | (with_reducible refine (hoa _).mono ?_; rintro e w9 ⟨rfl, k9⟩; exact ⟨rfl, ⟨_, (KS.property _).trans k9⟩, rfl⟩) | (with_reducible refine (hob _).mono ?_; rintro e w9 ⟨rfl, k9⟩; exact ⟨rfl, ⟨_, (KS.property _).trans k9⟩, rfl⟩)))))
          refine wpQuiet_nil ?_
          rintro _ ⟨U, rfl⟩
          have ku := U.property
          clear Y2 hNE hoa hob hgb hqb
          (try clear hqa)
          generalize U.val = w8 at *
          go_wp2_with fail
          go_ret
          exact ⟨rfl, kw8.trans ku⟩
        · have hL2 : L = b3 := hL
          clear hL
          subst hL2
          refine wp_seq_k (fun K8 hK8 => ?_)
          have hK8H : Hid _ := hK8
          clear hK8
          go_wp2_with fail
          refine hK8H.out _ _ ?_
          clear hK8H
          refine wp_seq_k (fun K8 hK8 => ?_)
          have hK8H : Hid _ := hK8
          clear hK8
          go_wp2_with (first | (refine wpList_load_runL rfl 40 _ rfl ⟨b6, 0, none⟩ rfl _ hqa1 ?_; clear hqa1) | (refine wpList_load_runV (by kernel_rfl) 40 _ rfl ⟨b6, 0, none⟩ rfl _ hqa2 ?_; clear hqa2) | (go_at_call 37; refine hga1.mono ?_; clear hga1; rintro e w7 ⟨rfl, k7⟩; have hqa2 := hqa0 w7 k7; have hga2 := hga w7 k7) | (go_at_call 37; refine hga2.mono ?_; clear hga2; rintro e wz ⟨rfl, kz⟩))
          refine hK8H.out _ _ ?_
          clear hK8H
          have kw8 : Keeps (fun _ => False) w wz := (kw6.trans k7).trans kz
          obtain ⟨hX, hY, hzw⟩ := HXY.out
          obtain ⟨eR, eRn⟩ := HeR.out
          clear e3 e3' e4 e4' eA hb1 e7 e7'
          have zl0 : (⟨#[32]⟩ : ByteArray).size = 1 := rfl
          have u0 : ¬ ((X : ByteArray).size + (⟨#[32]⟩ : ByteArray).size > 9223372036854775807) := by (try simp only [ByteArray.size_append]); omega
          have t0 : ¬ (9223372036854775807 < (X : ByteArray).size + (⟨#[32]⟩ : ByteArray).size) := u0
          have u1 : ¬ ((X ++ ⟨#[32]⟩ : ByteArray).size + (W0 : ByteArray).size > 9223372036854775807) := by (try simp only [ByteArray.size_append]); omega
          have t1 : ¬ (9223372036854775807 < (X ++ ⟨#[32]⟩ : ByteArray).size + (W0 : ByteArray).size) := u1
          have u2 : ¬ (((X ++ ⟨#[32]⟩) ++ W0 : ByteArray).size + (⟨#[32]⟩ : ByteArray).size > 9223372036854775807) := by (try simp only [ByteArray.size_append]); omega
          have t2 : ¬ (9223372036854775807 < ((X ++ ⟨#[32]⟩) ++ W0 : ByteArray).size + (⟨#[32]⟩ : ByteArray).size) := u2
          have u3 : ¬ ((((X ++ ⟨#[32]⟩) ++ W0) ++ ⟨#[32]⟩ : ByteArray).size + (Y : ByteArray).size > 9223372036854775807) := by (try simp only [ByteArray.size_append]); omega
          have t3 : ¬ (9223372036854775807 < (((X ++ ⟨#[32]⟩) ++ W0) ++ ⟨#[32]⟩ : ByteArray).size + (Y : ByteArray).size) := u3
          have Y2 := ks_cell ((Q6.keep (by show 0 < 4; decide) (k7.trans kz) (fun e => e)).c 2 _ rfl)
          have hqa : ∀ W, (∃ u : KS wz, W = u.1) → (loadVar 40 ⟨b6, 0, none⟩).run Tryd.prog W = .ok (.agg #[.int .i64 k1, .int .i64 n1, .string s1, .slice p1 m1 c1]) W := fun W ⟨u, hu⟩ => by rw [hu]; exact hqa0 _ ((k7.trans kz).trans u.2)
          have hqb : ∀ W, (∃ u : KS wz, W = u.1) → (loadVar 40 ⟨b7, 0, none⟩).run Tryd.prog W = .ok (.agg #[.int .i64 k2, .int .i64 n2, .string s2, .slice p2 m2 c2]) W := fun W ⟨u, hu⟩ => by rw [hu]; exact hqb0 _ ((k7.trans kz).trans u.2)
          have hoa := fun u : KS wz => HOA.out u.1 (kw8.trans u.2)
          have hob := fun u : KS wz => HOB.out u.1 (kw8.trans u.2)
          have hgb := fun u : KS wz => HGB.out u.1 (kw8.trans u.2)
          have hNE : Nonempty (KS wz) := ⟨⟨wz, Keeps.refl _ _⟩⟩
          clear hqa0 hqb0 q Q6
          (try go_wp2_with fail)
          refine wp_region_ks (by kernel_rfl) (by kernel_rfl) ?_
          (repeat (first | go_big_quiet_skip | (have hqx := hqa; refine wpQuiet_loadE (by kernel_rfl) 40 _ rfl ⟨b6, 0, none⟩ rfl _ hqx ?_; clear hqx hqa; (try simp only [Act.put, List.setIfInBounds_toArray, List.set_cons_zero, List.set_cons_succ])) | (refine wpQuiet_loadE (by kernel_rfl) 40 _ rfl ⟨b7, 0, none⟩ rfl _ hqb ?_; (try simp only [Act.put, List.setIfInBounds_toArray, List.set_cons_zero, List.set_cons_succ])) | go_big_quiet_step (first | (go_at_call 37; with_reducible refine (hgb _).mono ?_; rintro e w9 ⟨rfl, k9⟩; exact ⟨rfl, ⟨_, (KS.property _).trans k9⟩, rfl⟩) | (go_at_call 36; first | (with_reducible refine (hoa _).mono ?_; rintro e w9 ⟨rfl, k9⟩; exact ⟨rfl, ⟨_, (KS.property _).trans k9⟩, rfl⟩) | (with_reducible refine (hob _).mono ?_; rintro e w9 ⟨rfl, k9⟩; exact ⟨rfl, ⟨_, (KS.property _).trans k9⟩, rfl⟩)))))
          refine wpQuiet_nil ?_
          rintro _ ⟨U, rfl⟩
          have ku := U.property
          clear Y2 hNE hoa hob hgb hqb
          (try clear hqa)
          generalize U.val = w8 at *
          go_wp2_with fail
          go_ret
          exact ⟨rfl, kw8.trans ku⟩
      · have hL2 : L = true := hL
        clear hL
        subst hL2
        refine wp_seq_k (fun K8 hK8 => ?_)
        have hK8H : Hid _ := hK8
        clear hK8
        go_wp2_with fail
        refine hK8H.out _ _ ?_
        clear hK8H
        refine wp_seq_k (fun K8 hK8 => ?_)
        have hK8H : Hid _ := hK8
        clear hK8
        go_wp2_with (first | (refine wpList_load_runL rfl 40 _ rfl ⟨b6, 0, none⟩ rfl _ hqa1 ?_; clear hqa1) | (go_at_call 37; refine hga1.mono ?_; clear hga1; rintro e w7 ⟨rfl, k7⟩; have hqa2 := hqa0 w7 k7; have hga2 := hga w7 k7))
        refine hK8H.out _ _ ?_
        clear hK8H
        have kw8 : Keeps (fun _ => False) w w7 := kw6.trans k7
        obtain ⟨hX, hY, hzw⟩ := HXY.out
        obtain ⟨eR, eRn⟩ := HeR.out
        clear e3 e3' e4 e4' eA hb1 e7 e7'
        have zl0 : (⟨#[32]⟩ : ByteArray).size = 1 := rfl
        have u0 : ¬ ((X : ByteArray).size + (⟨#[32]⟩ : ByteArray).size > 9223372036854775807) := by (try simp only [ByteArray.size_append]); omega
        have t0 : ¬ (9223372036854775807 < (X : ByteArray).size + (⟨#[32]⟩ : ByteArray).size) := u0
        have u1 : ¬ ((X ++ ⟨#[32]⟩ : ByteArray).size + (W0 : ByteArray).size > 9223372036854775807) := by (try simp only [ByteArray.size_append]); omega
        have t1 : ¬ (9223372036854775807 < (X ++ ⟨#[32]⟩ : ByteArray).size + (W0 : ByteArray).size) := u1
        have u2 : ¬ (((X ++ ⟨#[32]⟩) ++ W0 : ByteArray).size + (⟨#[32]⟩ : ByteArray).size > 9223372036854775807) := by (try simp only [ByteArray.size_append]); omega
        have t2 : ¬ (9223372036854775807 < ((X ++ ⟨#[32]⟩) ++ W0 : ByteArray).size + (⟨#[32]⟩ : ByteArray).size) := u2
        have u3 : ¬ ((((X ++ ⟨#[32]⟩) ++ W0) ++ ⟨#[32]⟩ : ByteArray).size + (Y : ByteArray).size > 9223372036854775807) := by (try simp only [ByteArray.size_append]); omega
        have t3 : ¬ (9223372036854775807 < (((X ++ ⟨#[32]⟩) ++ W0) ++ ⟨#[32]⟩ : ByteArray).size + (Y : ByteArray).size) := u3
        have Y2 := ks_cell ((Q6.keep (by show 0 < 4; decide) k7 (fun e => e)).c 2 _ rfl)
        have hqa : ∀ W, (∃ u : KS w7, W = u.1) → (loadVar 40 ⟨b6, 0, none⟩).run Tryd.prog W = .ok (.agg #[.int .i64 k1, .int .i64 n1, .string s1, .slice p1 m1 c1]) W := fun W ⟨u, hu⟩ => by rw [hu]; exact hqa0 _ (k7.trans u.2)
        have hqb : ∀ W, (∃ u : KS w7, W = u.1) → (loadVar 40 ⟨b7, 0, none⟩).run Tryd.prog W = .ok (.agg #[.int .i64 k2, .int .i64 n2, .string s2, .slice p2 m2 c2]) W := fun W ⟨u, hu⟩ => by rw [hu]; exact hqb0 _ (k7.trans u.2)
        have hoa := fun u : KS w7 => HOA.out u.1 (kw8.trans u.2)
        have hob := fun u : KS w7 => HOB.out u.1 (kw8.trans u.2)
        have hgb := fun u : KS w7 => HGB.out u.1 (kw8.trans u.2)
        have hNE : Nonempty (KS w7) := ⟨⟨w7, Keeps.refl _ _⟩⟩
        clear hqa0 hqb0 q Q6
        (try go_wp2_with fail)
        refine wp_region_ks (by kernel_rfl) (by kernel_rfl) ?_
        (repeat (first | go_big_quiet_skip | (have hqx := hqa; refine wpQuiet_loadE (by kernel_rfl) 40 _ rfl ⟨b6, 0, none⟩ rfl _ hqx ?_; clear hqx hqa; (try simp only [Act.put, List.setIfInBounds_toArray, List.set_cons_zero, List.set_cons_succ])) | (refine wpQuiet_loadE (by kernel_rfl) 40 _ rfl ⟨b7, 0, none⟩ rfl _ hqb ?_; (try simp only [Act.put, List.setIfInBounds_toArray, List.set_cons_zero, List.set_cons_succ])) | go_big_quiet_step (first | (go_at_call 37; with_reducible refine (hgb _).mono ?_; rintro e w9 ⟨rfl, k9⟩; exact ⟨rfl, ⟨_, (KS.property _).trans k9⟩, rfl⟩) | (go_at_call 36; first | (with_reducible refine (hoa _).mono ?_; rintro e w9 ⟨rfl, k9⟩; exact ⟨rfl, ⟨_, (KS.property _).trans k9⟩, rfl⟩) | (with_reducible refine (hob _).mono ?_; rintro e w9 ⟨rfl, k9⟩; exact ⟨rfl, ⟨_, (KS.property _).trans k9⟩, rfl⟩)))))
        refine wpQuiet_nil ?_
        rintro _ ⟨U, rfl⟩
        have ku := U.property
        clear Y2 hNE hoa hob hgb hqb
        (try clear hqa)
        generalize U.val = w8 at *
        go_wp2_with fail
        go_ret
        exact ⟨rfl, kw8.trans ku⟩
  have restH : Hid _ := rest
  clear rest hK2
  refine wp_region_held_drew (S := fun w' => Keeps (fun _ => False) W1 w') (by kernel_rfl) (Keeps.refl _ W1).drew (fun hHeld => ?_)
  refine wpAnyH_take (i := 0) (v := ?_) rfl (by kernel_rfl) (by kernel_rfl) (by kernel_rfl) (fun _ _ _ h => h) (Or.inl ⟨by rfl, ?_⟩) (by assumption) ?_
  rotate_left
  · intro wx hSw; clear hSw; go_simp <;> with_reducible rfl
  (try simp only [List.getElem_toArray]); (try simp only [List.getElem_cons_succ]); (try simp only [List.getElem_cons_zero]); (try simp only [Act.put]); (try simp only [List.setIfInBounds_toArray]); (repeat first | simp only [List.set_cons_succ] | simp only [List.set_cons_zero])
  refine wpAnyH_take (i := 1) (v := ?_) rfl (by kernel_rfl) (by kernel_rfl) (by kernel_rfl) (fun _ _ _ h => h) (Or.inl ⟨by rfl, ?_⟩) (by assumption) ?_
  rotate_left
  · intro wx hSw; have q0 := Keeps.cell (S := fun _ => False) hSw y3 (fun e => e); clear hSw; go_simp <;> with_reducible rfl
  (try simp only [List.getElem_toArray]); (try simp only [List.getElem_cons_succ]); (try simp only [List.getElem_cons_zero]); (try simp only [Act.put]); (try simp only [List.setIfInBounds_toArray]); (repeat first | simp only [List.set_cons_succ] | simp only [List.set_cons_zero])
  refine wpAnyH_take (i := 2) (v := ?_) rfl (by kernel_rfl) (by kernel_rfl) (by kernel_rfl) (fun _ _ _ h => h) (Or.inl ⟨by rfl, ?_⟩) (by assumption) ?_
  rotate_left
  · intro wx hSw; clear hSw; go_simp <;> with_reducible rfl
  (try simp only [List.getElem_toArray]); (try simp only [List.getElem_cons_succ]); (try simp only [List.getElem_cons_zero]); (try simp only [Act.put]); (try simp only [List.setIfInBounds_toArray]); (repeat first | simp only [List.set_cons_succ] | simp only [List.set_cons_zero])
  refine wpAnyH_take (i := 3) (v := .agg #[.int .i64 k1, .int .i64 n1, .string s1, .slice p1 m1 c1]) rfl (by kernel_rfl) (by kernel_rfl) (by kernel_rfl) (fun _ _ _ h => h) (Or.inl ⟨by rfl, ?_⟩) (by assumption) ?_
  · intro wx hSw; exact takes_loadR 40 _ rfl ⟨g, o, none⟩ rfl (hRNa wx (k1W.trans hSw))
  (try simp only [List.getElem_toArray]); (try simp only [List.getElem_cons_succ]); (try simp only [List.getElem_cons_zero]); (try simp only [Act.put]); (try simp only [List.setIfInBounds_toArray]); (repeat first | simp only [List.set_cons_succ] | simp only [List.set_cons_zero])
  refine wpAnyH_take (i := 4) (v := ?_) rfl (by kernel_rfl) (by kernel_rfl) (by kernel_rfl) (fun _ _ _ h => h) (Or.inl ⟨by rfl, ?_⟩) (by assumption) ?_
  rotate_left
  · intro wx hSw; clear hSw; go_simp <;> with_reducible rfl
  (try simp only [List.getElem_toArray]); (try simp only [List.getElem_cons_succ]); (try simp only [List.getElem_cons_zero]); (try simp only [Act.put]); (try simp only [List.setIfInBounds_toArray]); (repeat first | simp only [List.set_cons_succ] | simp only [List.set_cons_zero])
  refine wpAnyH_take (i := 5) (v := ?_) rfl (by kernel_rfl) (by kernel_rfl) (by kernel_rfl) (fun _ _ _ h => h) (Or.inl ⟨by rfl, ?_⟩) (by assumption) ?_
  rotate_left
  · intro wx hSw; have q0 := Keeps.cell (S := fun _ => False) hSw y3 (fun e => e); clear hSw; go_simp <;> with_reducible rfl
  (try simp only [List.getElem_toArray]); (try simp only [List.getElem_cons_succ]); (try simp only [List.getElem_cons_zero]); (try simp only [Act.put]); (try simp only [List.setIfInBounds_toArray]); (repeat first | simp only [List.set_cons_succ] | simp only [List.set_cons_zero])
  refine wpAnyH_take (i := 6) (v := ?_) rfl (by kernel_rfl) (by kernel_rfl) (by kernel_rfl) (fun _ _ _ h => h) (Or.inl ⟨by rfl, ?_⟩) (by assumption) ?_
  rotate_left
  · intro wx hSw; clear hSw; go_simp <;> with_reducible rfl
  (try simp only [List.getElem_toArray]); (try simp only [List.getElem_cons_succ]); (try simp only [List.getElem_cons_zero]); (try simp only [Act.put]); (try simp only [List.setIfInBounds_toArray]); (repeat first | simp only [List.set_cons_succ] | simp only [List.set_cons_zero])
  refine wpAnyH_take (i := 7) (v := .agg #[.int .i64 k2, .int .i64 n2, .string s2, .slice p2 m2 c2]) rfl (by kernel_rfl) (by kernel_rfl) (by kernel_rfl) (fun _ _ _ h => h) (Or.inl ⟨by rfl, ?_⟩) (by assumption) ?_
  · intro wx hSw; exact takes_loadR 40 _ rfl ⟨g, o + 4, none⟩ rfl (hRNb wx (k1W.trans hSw))
  (try simp only [List.getElem_toArray]); (try simp only [List.getElem_cons_succ]); (try simp only [List.getElem_cons_zero]); (try simp only [Act.put]); (try simp only [List.setIfInBounds_toArray]); (repeat first | simp only [List.set_cons_succ] | simp only [List.set_cons_zero])
  have m0 := (CL.made W1 zER 40).drew
  have m1 := (CL.made (W1.alloc (.cells zER.toArray 40)).drew zER 40)
  have s1 : (W1.alloc (.cells zER.toArray 40)).drew.heap.size = W1.heap.size + 1 := World.size_alloc _ _
  rw [s1] at m1
  have m01 := m0.alloc (by show 0 < 4; decide) (.cells zER.toArray 40)
  refine wpAnyH_two' 8 9 (by kernel_rfl) rfl rfl (by kernel_rfl) (by kernel_rfl) ?_ ?_
  · go_simp
    refine ⟨hHeld.alloc _, fun hS1 => ?_⟩
    (try simp only [List.getElem_toArray]); (try simp only [List.getElem_cons_succ]); (try simp only [List.getElem_cons_zero]); (try simp only [Act.put]); (try simp only [List.setIfInBounds_toArray]); (repeat first | simp only [List.set_cons_succ] | simp only [List.set_cons_zero])
    refine wpAnyH_one 9 (by kernel_rfl) rfl rfl ?_
    go_simp
    refine ⟨hS1.alloc _, fun hS2 => ?_⟩
    (try simp only [List.getElem_toArray]); (try simp only [List.getElem_cons_succ]); (try simp only [List.getElem_cons_zero]); (try simp only [Act.put]); (try simp only [List.setIfInBounds_toArray]); (repeat first | simp only [List.set_cons_succ] | simp only [List.set_cons_zero])
    refine wpAnyH_storeR 10 (by kernel_rfl) rfl rfl 40 _ _ rfl (W1.heap.size) 4 _ rfl rfl rfl m01 rfl iER oneR (fun w1 k => Keeps.trans' (S := fun _ => False) hS2 k (fun _ _ e => e) (fun i hi e => by have e : i = W1.heap.size := e; omega)) (fun v5 hb5 k5 hS3 => ?_)
    (try simp only [List.getElem_toArray]); (try simp only [List.getElem_cons_succ]); (try simp only [List.getElem_cons_zero]); (try simp only [Act.put]); (try simp only [List.setIfInBounds_toArray]); (repeat first | simp only [List.set_cons_succ] | simp only [List.set_cons_zero])
    have m7 := CL.keep m1 (by show 0 < 4; decide) k5 (fun e => by have e : W1.heap.size + 1 = W1.heap.size := e; omega)
    refine wpAnyH_storeR 11 (by kernel_rfl) rfl rfl 40 _ _ rfl (W1.heap.size + 1) 4 _ rfl rfl rfl m7 rfl iER oneR (fun w1 k => Keeps.trans' (S := fun _ => False) hS3 k (fun _ _ e => e) (fun i hi e => by have e : i = W1.heap.size + 1 := e; omega)) (fun w6 hb6 k6 hS4 => ?_)
    (try simp only [List.getElem_toArray]); (try simp only [List.getElem_cons_succ]); (try simp only [List.getElem_cons_zero]); (try simp only [Act.put]); (try simp only [List.setIfInBounds_toArray]); (repeat first | simp only [List.set_cons_succ] | simp only [List.set_cons_zero])
    refine wpAnyH_done (by kernel_rfl) ?_ _
    exact restH.out _ _ _ _ _ _ _ _ _ _ _ _ _ _ _ _ _ _ _ _ _ _ _ _ _ _ _ _ _ _ _ _ _ _ _ _ _ _ _ _ _ _ _ _ _ _ _ _ _ _ _ _ _ _ _ _ _ _ _ _ _ _ _ _ _ _ _ _ _ _ _ _ _ _ _ _ _ _ _ _ _ _ _ _ _ _ _ _ _ _ _ _ _ _ _ _ _ _ _ _ _ _ _ _ _ _ _ _ _ _ _ _ (W1.heap.size) (W1.heap.size + 1) w6 (hb5.keep (by show 0 < 4; decide) k6 (fun e => by have e : W1.heap.size = W1.heap.size + 1 := e; omega)) hb6 hS4
  · go_simp
    refine ⟨hHeld.alloc _, fun hS1 => ?_⟩
    (try simp only [List.getElem_toArray]); (try simp only [List.getElem_cons_succ]); (try simp only [List.getElem_cons_zero]); (try simp only [Act.put]); (try simp only [List.setIfInBounds_toArray]); (repeat first | simp only [List.set_cons_succ] | simp only [List.set_cons_zero])
    refine wpAnyH_one 8 (by kernel_rfl) rfl rfl ?_
    go_simp
    refine ⟨hS1.alloc _, fun hS2 => ?_⟩
    (try simp only [List.getElem_toArray]); (try simp only [List.getElem_cons_succ]); (try simp only [List.getElem_cons_zero]); (try simp only [Act.put]); (try simp only [List.setIfInBounds_toArray]); (repeat first | simp only [List.set_cons_succ] | simp only [List.set_cons_zero])
    refine wpAnyH_storeR 10 (by kernel_rfl) rfl rfl 40 _ _ rfl (W1.heap.size + 1) 4 _ rfl rfl rfl m1 rfl iER oneR (fun w1 k => Keeps.trans' (S := fun _ => False) hS2 k (fun _ _ e => e) (fun i hi e => by have e : i = W1.heap.size + 1 := e; omega)) (fun v5 hb5 k5 hS3 => ?_)
    (try simp only [List.getElem_toArray]); (try simp only [List.getElem_cons_succ]); (try simp only [List.getElem_cons_zero]); (try simp only [Act.put]); (try simp only [List.setIfInBounds_toArray]); (repeat first | simp only [List.set_cons_succ] | simp only [List.set_cons_zero])
    have m7 := CL.keep m01 (by show 0 < 4; decide) k5 (fun e => by have e : W1.heap.size = W1.heap.size + 1 := e; omega)
    refine wpAnyH_storeR 11 (by kernel_rfl) rfl rfl 40 _ _ rfl (W1.heap.size) 4 _ rfl rfl rfl m7 rfl iER oneR (fun w1 k => Keeps.trans' (S := fun _ => False) hS3 k (fun _ _ e => e) (fun i hi e => by have e : i = W1.heap.size := e; omega)) (fun w6 hb6 k6 hS4 => ?_)
    (try simp only [List.getElem_toArray]); (try simp only [List.getElem_cons_succ]); (try simp only [List.getElem_cons_zero]); (try simp only [Act.put]); (try simp only [List.setIfInBounds_toArray]); (repeat first | simp only [List.set_cons_succ] | simp only [List.set_cons_zero])
    refine wpAnyH_done (by kernel_rfl) ?_ _
    exact restH.out _ _ _ _ _ _ _ _ _ _ _ _ _ _ _ _ _ _ _ _ _ _ _ _ _ _ _ _ _ _ _ _ _ _ _ _ _ _ _ _ _ _ _ _ _ _ _ _ _ _ _ _ _ _ _ _ _ _ _ _ _ _ _ _ _ _ _ _ _ _ _ _ _ _ _ _ _ _ _ _ _ _ _ _ _ _ _ _ _ _ _ _ _ _ _ _ _ _ _ _ _ _ _ _ _ _ _ _ _ _ _ _ (W1.heap.size + 1) (W1.heap.size) w6 (hb5.keep (by show 0 < 4; decide) k6 (fun e => by have e : W1.heap.size + 1 = W1.heap.size := e; omega)) hb6 hS4
end Go.Proofs.YtehblpbefkopbaaDoor
namespace Go.Proofs.YtehblpbefkopbaaDoor
open Go.RowKit Go.ChangeShapes Go.WideShapes Go.ChangeAt Go.Deep
attribute [local go_sem] Oper.semAt_some run_store_nf run_store_f
/-! The document's text of statements. -/
theorem told_all : ∀ {t : Tr}, WfE t → bgE t ≤ 1048576 → ToE t := by
  intro t h
  induction h with
  | num h1 h2 => exact fun _ => told_num h2
  | name h1 => exact fun _ => told_name
  | @obj a h1 ih => intro hb; rw [bgE, bgL, bgL] at hb; exact told_obj (ih (by omega)) (pE_sh h1 (by omega))
  | @tak a h1 ih => intro hb; rw [bgE, bgL, bgL] at hb; exact told_tak (ih (by omega)) (pE_sh h1 (by omega))
  | @neg a h1 ih => intro hb; rw [bgE, bgL, bgL] at hb; exact told_neg (ih (by omega)) (pE_sh h1 (by omega))
  | @not a h1 ih => intro hb; rw [bgE, bgL, bgL] at hb; exact told_not (ih (by omega)) (pE_sh h1 (by omega))
  | @bin wd a b h0 h1 h2 i1 i2 => intro hb; rw [bgE, bgL, bgL, bgL] at hb; exact told_two h0 (i1 (by omega)) (i2 (by omega)) (pE_sh h1 (by omega)) (pE_sh h2 (by omega))
def PrL (l : List St) : Prop := ∀ (t : Bs) (w : World) (p : Option Addr) (c : Nat) (xs : List Value), (szSL l).2 ≤ 512 → t.length + (szSL l).1 ≤ 24 → Rd w p xs → ISL w l xs → Calls Tryd.prog 13 #[.slice p l.length c, .string (bs t)] w fun e w' => e = .returned (.string (bs (pL t l))) ∧ Keeps (fun _ => False) w w'
def BrS (s : St) : Prop := ∀ (t : Bs) (w : World) (L : List Value), (szS s).2 ≤ 512 → t.length + (szS s).1 ≤ 24 → IS w s L → Calls Tryd.prog 23 #[.agg L.toArray, .string (bs t)] w fun e w' => e = .returned (.string (bs (pS t s ++ [10]))) ∧ Keeps (fun _ => False) w w'
theorem sz_if {a : Tr} {th el : List St} : szS (.mk 4 [] a tr0 th el) = (max (max (szE a).1 (szSL th).1) (szSL el).1 + 1, min ((szE a).2 + (szSL th).2 + (szSL el).2 + 1) 513) := by
  rw [szS, if_pos (by unfold okS; simp [usW, usA, usB, usT, usE, isZr, tr0]), if_pos (by decide), if_neg (by decide), wth_zero', und]; rfl
set_option maxHeartbeats 4000000 in
set_option maxRecDepth 100000 in
theorem br_step {a : Tr} {th el : List St} (hTa : ToE a) (hSa : Sh (pE a)) (hPt : PrL th) (hPe : PrL el) (hBr : ∀ s, el = [s] → kdS s = 4 → BrS s) (hLt : LnL th) (hLe : LnL el) (hLb : ∀ s, el = [s] → kdS s = 4 → LnS s) : BrS (.mk 4 [] a tr0 th el) := by
  intro t w L hn hd hs
  rw [sz_if] at hn hd
  simp only at hn hd
  obtain ⟨-, -, ka, na, sa, pa, ma, ca, kb, nb, sb, pb, mb, cb, pt, ct, pe, ce, xt, xe, rfl, Ta, -, ot, st1, oe, se1⟩ := hs.parts
  clear hs
  have lT := hLt (t ++ [9]) (by omega) (by simp; omega)
  have lE := hLe (t ++ [9]) (by omega) (by simp; omega)
  have tl : t.length ≤ 24 := by omega
  obtain ⟨T, hT⟩ : ∃ T, bs t = T := ⟨_, rfl⟩
  have hT9 : T ++ ⟨#[9]⟩ = bs (t ++ [9]) := by rw [← hT, show (⟨#[9]⟩ : ByteArray) = bs [9] from rfl, bs_cat]
  have HTA : Hid (∀ W, Keeps (fun _ => False) w W → Calls Tryd.prog 22 #[.agg #[.int .i64 ka, .int .i64 na, .string sa, .slice pa ma ca]] W fun e w' => e = .returned (.string (bs (pE a))) ∧ Keeps (fun _ => False) W w') := fun W k => hTa W _ (Ta.keep k)
  have HPT : Hid (∀ W, Keeps (fun _ => False) w W → Calls Tryd.prog 13 #[.slice pt th.length ct, .string (T ++ ⟨#[9]⟩)] W fun e w' => e = .returned (.string (bs (pL (t ++ [9]) th))) ∧ Keeps (fun _ => False) W w') := fun W k => by rw [hT9]; exact hPt (t ++ [9]) W pt ct xt (by omega) (by simp; omega) (ot.keep k) (st1.keep k)
  have HPE : Hid (∀ W, Keeps (fun _ => False) w W → Calls Tryd.prog 13 #[.slice pe el.length ce, .string (T ++ ⟨#[9]⟩)] W fun e w' => e = .returned (.string (bs (pL (t ++ [9]) el))) ∧ Keeps (fun _ => False) W w') := fun W k => by rw [hT9]; exact hPe (t ++ [9]) W pe ce xe (by omega) (by simp; omega) (oe.keep k) (se1.keep k)
  have hXs : (bs (pE a)).size ≤ 1099511627776 := hSa
  have hPs : (bs (pL (t ++ [9]) th)).size ≤ 1099511627776 := by rw [bs_size]; omega
  have hEs : (bs (pL (t ++ [9]) el)).size ≤ 1099511627776 := by rw [bs_size]; omega
  have hTs : T.size ≤ 24 := by rw [← hT]; exact tl
  obtain ⟨X, hX⟩ : ∃ X, bs (pE a) = X := ⟨_, rfl⟩
  obtain ⟨P, hP⟩ : ∃ P, bs (pL (t ++ [9]) th) = P := ⟨_, rfl⟩
  have HS : Hid (bs (kIf ++ (32 :: (pE a ++ (32 :: 123 :: 10 :: (pL (t ++ [9]) th ++ (t ++ [125])))))) = (((((⟨#[105, 102, 32]⟩) ++ X) ++ ⟨#[32, 123, 10]⟩) ++ P) ++ T) ++ ⟨#[125]⟩) := by
    show _ = _
    rw [← hX, ← hP, ← hT, show (⟨#[105, 102, 32]⟩ : ByteArray) = bs [105, 102, 32] from rfl, show (⟨#[32, 123, 10]⟩ : ByteArray) = bs [32, 123, 10] from rfl, show (⟨#[125]⟩ : ByteArray) = bs [125] from rfl, bs_cat, bs_cat, bs_cat, bs_cat, bs_cat]
    simp [kIf]
  have HRES : Hid (bs (pS t (.mk 4 [] a tr0 th el) ++ [10]) = ((((((⟨#[105, 102, 32]⟩) ++ X) ++ ⟨#[32, 123, 10]⟩) ++ P) ++ T) ++ ⟨#[125]⟩) ++ bs (pO t el ++ [10])) := by
    show _ = _
    rw [← HS.out, bs_cat, pS, if_neg (by decide), if_neg (by decide), if_neg (by decide), if_pos rfl]
    simp
  rw [HRES.out]
  clear HS HRES
  rw [hX] at HTA hXs
  rw [hP] at HPT hPs
  have q := CL.made w [.int .i64 4, .string (bs []), .int .i64 ka, .int .i64 na, .string sa, .slice pa ma ca, .int .i64 kb, .int .i64 nb, .string sb, .slice pb mb cb, .slice pt th.length ct, .slice pe el.length ce] 42
  have kA := (Keeps.refl (fun _ => False) w).alloc (.cells ([.int .i64 4, .string (bs []), .int .i64 ka, .int .i64 na, .string sa, .slice pa ma ca, .int .i64 kb, .int .i64 nb, .string sb, .slice pb mb cb, .slice pt th.length ct, .slice pe el.length ce] : List Value).toArray 42)
  obtain ⟨x0, hx0⟩ : ∃ x0, w.heap.size = x0 := ⟨_, rfl⟩
  rw [hx0] at q
  rw [hT]
  generalize bs [] = W0 at *
  have HOE : Hid (Rd w pe xe ∧ ISL w el xe) := ⟨oe, se1⟩
  clear hTa hSa hPt hPe hLt hLe lT Ta ot st1 oe se1 hX hP hT9
  have zl0 : (⟨#[105, 102, 32]⟩ : ByteArray).size = 3 := rfl
  have zl1 : (⟨#[32, 123, 10]⟩ : ByteArray).size = 3 := rfl
  have zl2 : (⟨#[125]⟩ : ByteArray).size = 1 := rfl
  have u0 : ¬ ((⟨#[105, 102, 32]⟩ : ByteArray).size + (X : ByteArray).size > 9223372036854775807) := by (try simp only [ByteArray.size_append]); omega
  have t0 : ¬ (9223372036854775807 < (⟨#[105, 102, 32]⟩ : ByteArray).size + (X : ByteArray).size) := u0
  have u1 : ¬ (((⟨#[105, 102, 32]⟩) ++ X : ByteArray).size + (⟨#[32, 123, 10]⟩ : ByteArray).size > 9223372036854775807) := by (try simp only [ByteArray.size_append]); omega
  have t1 : ¬ (9223372036854775807 < ((⟨#[105, 102, 32]⟩) ++ X : ByteArray).size + (⟨#[32, 123, 10]⟩ : ByteArray).size) := u1
  have u2 : ¬ ((((⟨#[105, 102, 32]⟩) ++ X) ++ ⟨#[32, 123, 10]⟩ : ByteArray).size + (P : ByteArray).size > 9223372036854775807) := by (try simp only [ByteArray.size_append]); omega
  have t2 : ¬ (9223372036854775807 < (((⟨#[105, 102, 32]⟩) ++ X) ++ ⟨#[32, 123, 10]⟩ : ByteArray).size + (P : ByteArray).size) := u2
  have u3 : ¬ (((((⟨#[105, 102, 32]⟩) ++ X) ++ ⟨#[32, 123, 10]⟩) ++ P : ByteArray).size + (T : ByteArray).size > 9223372036854775807) := by (try simp only [ByteArray.size_append]); omega
  have t3 : ¬ (9223372036854775807 < ((((⟨#[105, 102, 32]⟩) ++ X) ++ ⟨#[32, 123, 10]⟩) ++ P : ByteArray).size + (T : ByteArray).size) := u3
  have u4 : ¬ ((((((⟨#[105, 102, 32]⟩) ++ X) ++ ⟨#[32, 123, 10]⟩) ++ P) ++ T : ByteArray).size + (⟨#[125]⟩ : ByteArray).size > 9223372036854775807) := by (try simp only [ByteArray.size_append]); omega
  have t4 : ¬ (9223372036854775807 < (((((⟨#[105, 102, 32]⟩) ++ X) ++ ⟨#[32, 123, 10]⟩) ++ P) ++ T : ByteArray).size + (⟨#[125]⟩ : ByteArray).size) := u4
  go_enter Tryd.func23, Tryd.ntmps23
  refine wp_seq_k (fun KK hKK => ?_)
  have hKH : Hid _ := hKK
  clear hKK
  go_wp2_with fail
  refine hKH.out _ _ ?_
  clear hKH KK
  generalize w.alloc (.cells #[.int .i64 4, .string W0, .int .i64 ka, .int .i64 na, .string sa, .slice pa ma ca, .int .i64 kb, .int .i64 nb, .string sb, .slice pb mb cb, .slice pt th.length ct, .slice pe el.length ce] 42) = W1 at *
  clear hx0
  have Y10 := ks_cell (q.c 10 _ rfl)
  have hta := fun u : KS W1 => HTA.out u.1 (kA.trans u.2)
  have hpt := fun u : KS W1 => HPT.out u.1 (kA.trans u.2)
  have hqa : ∀ W, (∃ u : KS W1, W = u.1) → (loadVar 40 ⟨x0, 2, none⟩).run Tryd.prog W = .ok (.agg #[.int .i64 ka, .int .i64 na, .string sa, .slice pa ma ca]) W := fun W ⟨u, hu⟩ => by
    rw [hu]
    exact run_er (fun j v e => (q.keep (by show 0 < 12; decide) u.2 (fun e => e)).c (2 + j) v (by rw [← List.getElem?_drop, ← e]; exact List.getElem?_append_left (l₂ := [.int .i64 kb, .int .i64 nb, .string sb, .slice pb mb cb, .slice pt th.length ct, .slice pe el.length ce]) (List.getElem?_eq_some_iff.1 e).1))
  have hNE : Nonempty (KS W1) := ⟨⟨W1, Keeps.refl _ W1⟩⟩
  refine wp_seq_k (fun KK hKK => ?_)
  have hKH : Hid _ := hKK
  clear hKK
  refine wp_region_ks (by kernel_rfl) (by kernel_rfl) ?_
  (repeat (first | go_big_quiet_skip | (have hqx := hqa; refine wpQuiet_loadE (by kernel_rfl) 40 _ rfl ⟨x0, 2, none⟩ rfl _ hqx ?_; clear hqx hqa; (try simp only [Act.put, List.setIfInBounds_toArray, List.set_cons_zero, List.set_cons_succ])) | go_big_quiet_step (first | (go_at_call 22; with_reducible refine (hta _).mono ?_; rintro e w9 ⟨rfl, k9⟩; exact ⟨rfl, ⟨_, (KS.property _).trans k9⟩, rfl⟩) | (go_at_call 13; with_reducible refine (hpt _).mono ?_; rintro e w9 ⟨rfl, k9⟩; exact ⟨rfl, ⟨_, (KS.property _).trans k9⟩, rfl⟩))))
  refine wpQuiet_nil ?_
  rintro _ ⟨U, rfl⟩
  have ku := U.property
  clear Y10 hta hpt hNE HTA HPT
  generalize U.val = w2 at *
  refine hKH.out _ _ ?_
  clear hKH KK
  have Q2 := q.keep (by show 0 < 12; decide) ku (fun e => e)
  have y11 := Q2.c 11 _ rfl
  have k2 : Keeps (fun _ => False) w w2 := kA.trans ku
  have hos : ((((((⟨#[105, 102, 32]⟩) ++ X) ++ ⟨#[32, 123, 10]⟩) ++ P) ++ T) ++ ⟨#[125]⟩ : ByteArray).size ≤ 10995116277760 := by simp only [ByteArray.size_append]; omega
  clear u0 u1 u2 u3 u4 t0 t1 t2 t3 t4 q ku kA
  generalize (((((⟨#[105, 102, 32]⟩) ++ X) ++ ⟨#[32, 123, 10]⟩) ++ P) ++ T) ++ ⟨#[125]⟩ = OUT at *
  clear hXs hPs zl0 zl1 zl2
  have hn2 := hn
  clear hn
  cases el with
  | nil =>
    have e0 : ((([] : List St).length : Int) == 0) = true := rfl
    rw [show bs (pO t [] ++ [10]) = ⟨#[10]⟩ from rfl]
    rw [show ([] : List St).length = 0 from rfl] at y11
    have zl0 : (⟨#[10]⟩ : ByteArray).size = 1 := rfl
    have u0 : ¬ ((OUT : ByteArray).size + (⟨#[10]⟩ : ByteArray).size > 9223372036854775807) := by (try simp only [ByteArray.size_append]); omega
    have t0 : ¬ (9223372036854775807 < (OUT : ByteArray).size + (⟨#[10]⟩ : ByteArray).size) := u0
    go_wp2_with fail
    go_ret
    exact ⟨rfl, k2⟩
  | cons s r =>
    have e0 : (((s :: r).length : Int) == 0) = false := by rw [beq_eq_false_iff_ne, List.length_cons]; omega
    have e0' : ((s :: r).length == 0) = false := rfl
    have e0n : ((r.length : Int) + 1 == 0) = false := by rw [beq_eq_false_iff_ne]; omega
    have e1 : (((s :: r).length : Int) == 1) = decide (r.length = 0) := by rw [beq_int, List.length_cons]; by_cases h : r.length = 0 <;> simp [h] <;> omega
    have e1' : ((s :: r).length == 1) = decide (r.length = 0) := by rw [beq_nat, List.length_cons]; by_cases h : r.length = 0 <;> simp [h]
    obtain ⟨us, hty, hyc⟩ := HOE.out.2.at 0 s rfl
    obtain ⟨ge, oe, rfl, -⟩ := HOE.out.1 (0 * 12) _ (hyc 0 _ (by rw [List.getElem?_eq_getElem (by rw [hty.len]; decide)]))
    have hkd : us[0]? = some (.int .i64 (kdS s)) := by
      obtain ⟨k, wd, a1, b1, th1, el1⟩ := s
      obtain ⟨-, -, la, lb, pt1, ct1, pe1, ce1, xs1, ys1, rfl, -⟩ := (by unfold IS at hty; exact hty)
      rfl
    have hcl : ∀ W, Keeps (fun _ => False) w W → ∀ (j : Nat) (u : Value), us[j]? = some u → W.cell? ⟨ge, oe + j, none⟩ = some u := fun W k j u e => by
      obtain ⟨g', o', eg, h6⟩ := HOE.out.1 _ _ (hyc j u e)
      injection eg with eg; injection eg with eg eo _; subst eg eo
      rw [Nat.zero_mul, Nat.zero_add] at h6
      exact k.cell h6 (fun e => e)
    have z0 := hcl w2 k2 0 _ hkd
    rw [Nat.add_zero] at z0
    have e4 : (kdS s == 4) = decide (kdS s = 4) := beq_int _ _
    have i0 : (0 : Int) < (((s :: r).length : Nat) : Int) := by rw [List.length_cons]; omega
    by_cases hc : r.length = 0 ∧ kdS s = 4
    · obtain ⟨c1, c2⟩ := hc
      have hr : r = [] := List.eq_nil_of_length_eq_zero c1
      subst hr
      have hB := hBr s rfl c2
      have hLs := hLb s rfl c2
      have ez : szSL [s] = szS s := by rw [szSL, szSL, wth_zero']
      rw [ez] at hd hn2
      have hlen := hLs.2.2 t (by omega) (by omega)
      have hBs : (bs (pS t s ++ [10])).size ≤ 1099511627776 := by rw [bs_size, List.length_append, List.length_singleton]; omega
      have HB := hB t w2 us (by omega) (by omega) (hty.keep k2)
      rw [hT] at HB
      have HF : Hid (OUT ++ bs (pO t [s] ++ [10]) = (OUT ++ ⟨#[32, 101, 108, 115, 101, 32]⟩) ++ bs (pS t s ++ [10])) := by
        show _ = _
        rw [show (⟨#[32, 101, 108, 115, 101, 32]⟩ : ByteArray) = bs [32, 101, 108, 115, 101, 32] from rfl, ByteArray.append_assoc, bs_cat, pO, if_pos (by rw [c2]; rfl)]
        simp [kElse]
      rw [HF.out]
      clear HF hB hLs hBr hLb hlen
      generalize bs (pS t s ++ [10]) = BR at *
      rw [c2] at z0 e4
      rw [show ([s] : List St).length = 1 from rfl] at *
      have hR1 := run_rs hty.len (hcl w2 k2)
      have zl0 : (⟨#[32, 101, 108, 115, 101, 32]⟩ : ByteArray).size = 6 := rfl
      have u0 : ¬ ((OUT : ByteArray).size + (⟨#[32, 101, 108, 115, 101, 32]⟩ : ByteArray).size > 9223372036854775807) := by (try simp only [ByteArray.size_append]); omega
      have t0 : ¬ (9223372036854775807 < (OUT : ByteArray).size + (⟨#[32, 101, 108, 115, 101, 32]⟩ : ByteArray).size) := u0
      have u1 : ¬ ((OUT ++ ⟨#[32, 101, 108, 115, 101, 32]⟩ : ByteArray).size + (BR : ByteArray).size > 9223372036854775807) := by (try simp only [ByteArray.size_append]); omega
      have t1 : ¬ (9223372036854775807 < (OUT ++ ⟨#[32, 101, 108, 115, 101, 32]⟩ : ByteArray).size + (BR : ByteArray).size) := u1
      clear e0 e0' e0n e1 e1' hcl hkd hyc
      go_wp2_with (first | (refine wpList_load_runL rfl 42 _ rfl ⟨ge, oe, none⟩ rfl _ hR1 ?_; clear hR1) | (go_at_call 23; refine HB.mono ?_; clear HB; rintro e w3 ⟨rfl, k3⟩))
      go_ret
      exact ⟨rfl, k2.trans k3⟩
    · have hbb : (r.isEmpty && decide (kdS s = 4)) = false := by
        cases r with
        | nil => simp only [List.isEmpty_nil, Bool.true_and]; exact decide_eq_false (fun e => hc ⟨rfl, e⟩)
        | cons a r => rfl
      have HPE2 := HPE.out w2 k2
      have HF : Hid (OUT ++ bs (pO t (s :: r) ++ [10]) = (((OUT ++ ⟨#[32, 101, 108, 115, 101, 32, 123, 10]⟩) ++ bs (pL (t ++ [9]) (s :: r))) ++ T) ++ ⟨#[125, 10]⟩) := by
        show _ = _
        rw [← hT, show (⟨#[32, 101, 108, 115, 101, 32, 123, 10]⟩ : ByteArray) = bs [32, 101, 108, 115, 101, 32, 123, 10] from rfl, show (⟨#[125, 10]⟩ : ByteArray) = bs [125, 10] from rfl, ByteArray.append_assoc, ByteArray.append_assoc, ByteArray.append_assoc, bs_cat, bs_cat, bs_cat, pO, if_neg (by rw [hbb]; simp), pL]
        simp [kElse]
      rw [HF.out]
      clear HF hBr hLb HOE HPE hty hyc hcl hkd lE
      generalize bs (pL (t ++ [9]) (s :: r)) = PE at *
      have zl0 : (⟨#[32, 101, 108, 115, 101, 32, 123, 10]⟩ : ByteArray).size = 8 := rfl
      have zl1 : (⟨#[125, 10]⟩ : ByteArray).size = 2 := rfl
      have zl2 : (⟨#[9]⟩ : ByteArray).size = 1 := rfl
      have u0 : ¬ ((OUT : ByteArray).size + (⟨#[32, 101, 108, 115, 101, 32, 123, 10]⟩ : ByteArray).size > 9223372036854775807) := by (try simp only [ByteArray.size_append]); omega
      have t0 : ¬ (9223372036854775807 < (OUT : ByteArray).size + (⟨#[32, 101, 108, 115, 101, 32, 123, 10]⟩ : ByteArray).size) := u0
      have u1 : ¬ ((OUT ++ ⟨#[32, 101, 108, 115, 101, 32, 123, 10]⟩ : ByteArray).size + (PE : ByteArray).size > 9223372036854775807) := by (try simp only [ByteArray.size_append]); omega
      have t1 : ¬ (9223372036854775807 < (OUT ++ ⟨#[32, 101, 108, 115, 101, 32, 123, 10]⟩ : ByteArray).size + (PE : ByteArray).size) := u1
      have u2 : ¬ (((OUT ++ ⟨#[32, 101, 108, 115, 101, 32, 123, 10]⟩) ++ PE : ByteArray).size + (T : ByteArray).size > 9223372036854775807) := by (try simp only [ByteArray.size_append]); omega
      have t2 : ¬ (9223372036854775807 < ((OUT ++ ⟨#[32, 101, 108, 115, 101, 32, 123, 10]⟩) ++ PE : ByteArray).size + (T : ByteArray).size) := u2
      have u3 : ¬ ((((OUT ++ ⟨#[32, 101, 108, 115, 101, 32, 123, 10]⟩) ++ PE) ++ T : ByteArray).size + (⟨#[125, 10]⟩ : ByteArray).size > 9223372036854775807) := by (try simp only [ByteArray.size_append]); omega
      have t3 : ¬ (9223372036854775807 < (((OUT ++ ⟨#[32, 101, 108, 115, 101, 32, 123, 10]⟩) ++ PE) ++ T : ByteArray).size + (⟨#[125, 10]⟩ : ByteArray).size) := u3
      have u4 : ¬ ((T : ByteArray).size + (⟨#[9]⟩ : ByteArray).size > 9223372036854775807) := by (try simp only [ByteArray.size_append]); omega
      have t4 : ¬ (9223372036854775807 < (T : ByteArray).size + (⟨#[9]⟩ : ByteArray).size) := u4
      by_cases hr : r.length = 0
      · have c2 : ¬ kdS s = 4 := fun e => hc ⟨hr, e⟩
        rw [decide_eq_false c2] at e4
        rw [decide_eq_true hr] at e1 e1'
        clear hc c2 hr hbb
        generalize kdS s = kd at *
        generalize (s :: r).length = nn at *
        go_wp2_with (go_at_call 13; refine HPE2.mono ?_; clear HPE2; rintro e w3 ⟨rfl, k3⟩)
        go_ret
        exact ⟨rfl, k2.trans k3⟩
      · rw [decide_eq_false hr] at e1 e1'
        clear hc hr hbb e4 z0
        generalize (s :: r).length = nn at *
        go_wp2_with (go_at_call 13; refine HPE2.mono ?_; clear HPE2; rintro e w3 ⟨rfl, k3⟩)
        go_ret
        exact ⟨rfl, k2.trans k3⟩
end Go.Proofs.YtehblpbefkopbaaDoor
namespace Go.Proofs.YtehblpbefkopbaaDoor
open Go.RowKit Go.ChangeShapes Go.WideShapes Go.ChangeAt Go.Deep
attribute [local go_sem] Oper.semAt_some run_store_nf run_store_f
/-! The document's printed. -/
theorem pL_app (t : Bs) : ∀ a b : List St, pL t (a ++ b) = pL t a ++ pL t b
  | [], b => by rw [List.nil_append, pL, List.nil_append]
  | s :: r, b => by rw [List.cons_append, pL, pL, pL_app t r b]; simp
theorem szSL_in : ∀ {l : List St} {i : Nat} {s : St}, l[i]? = some s → (szS s).1 ≤ (szSL l).1 ∧ (szS s).2 ≤ (szSL l).2
  | [], i, s, h => by cases h
  | a :: r, 0, s, h => by injection h with h; subst h; rw [szSL]; unfold wth; simp only; omega
  | a :: r, i + 1, s, h => by
    have := szSL_in (l := r) (i := i) h
    rw [szSL]; unfold wth; simp only; omega
theorem wfL_at : ∀ {l : List St} {i : Nat} {s : St}, WfL l → l[i]? = some s → WfS s
  | [], i, s, _, h => by cases h
  | a :: r, 0, s, hw, h => by injection h with h; subst h; unfold WfL at hw; exact hw.1
  | a :: r, i + 1, s, hw, h => by unfold WfL at hw; exact wfL_at hw.2 h
theorem sz_whl {a : Tr} {th : List St} : szS (.mk 5 [] a tr0 th []) = (max (szE a).1 (szSL th).1 + 1, min ((szE a).2 + (szSL th).2 + 1) 513) := by
  rw [szS, if_pos (by unfold okS; simp [usW, usA, usB, usT, usE, isZr, tr0]), szSL, if_pos (by decide), if_neg (by decide), wth_zero', wth_zero', und]; rfl
set_option maxHeartbeats 4000000 in
set_option maxRecDepth 100000 in
theorem pr_step {l : List St} (hW : WfL l) (hb : bgSL l ≤ 1048576) (hB : ∀ (i : Nat) (s : St), l[i]? = some s → kdS s = 4 → BrS s) (hP : ∀ (i : Nat) (k : Int) (wd : Bs) (a b : Tr) (th el : List St), l[i]? = some (.mk k wd a b th el) → PrL th ∧ LnL th) (hLS : ∀ (i : Nat) (s : St), l[i]? = some s → LnS s) (hLL : LnL l) : PrL l := by
  intro t w p c xs hn hd hget hx
  have hlen := hLL t hn hd
  have tl : t.length ≤ 24 := by omega
  obtain ⟨N, hN⟩ : ∃ N, N = l.length := ⟨_, rfl⟩
  have hNn : N ≤ 1048576 := by have := bgSL_len l; omega
  have HN : Hid (N = l.length) := hN
  rw [← hN]
  clear hN
  obtain ⟨T, hT⟩ : ∃ T, bs t = T := ⟨_, rfl⟩
  rw [hT]
  have HT : Hid (bs t = T) := hT
  have hTs : T.size ≤ 24 := by rw [← hT]; exact tl
  clear hT
  obtain ⟨RES, hRES⟩ : ∃ R, bs (pL t l) = R := ⟨_, rfl⟩
  rw [hRES]
  have HRES : Hid (bs (pL t l) = RES) := hRES
  clear hRES
  go_enter Tryd.func13, Tryd.ntmps13
  go_wp2_with fail
  go_loopw [5, 6] (fun ov iv Wr => ∃ (i : Nat) (OUT : ByteArray), ov = .string OUT ∧ iv = .int .i64 (i : Int) ∧ i ≤ N ∧ OUT.size ≤ 32768 ∧ Hid (OUT = bs (pL t (l.take i))) ∧ Keeps (fun _ => False) w Wr) (fun _ iv _ => N - (intOf iv).toNat)
  case atStart => exact ⟨0, _, rfl, rfl, Nat.zero_le _, (by decide), (by show _ = _; rw [List.take_zero, pL]; rfl), Keeps.refl _ w⟩
  case round =>
    obtain ⟨i, OUT, rfl, rfl, hi, hos, HO, hK⟩ := hrel
    by_cases hlt : i < N
    · have d1 : decide ((i : Int) < (N : Int)) = true := decide_eq_true (by omega)
      have d2 : decide (i < N) = true := decide_eq_true hlt
      have i0 : (0 : Int) ≤ (i : Int) := by omega
      have i1 : (i : Int) < (N : Int) := by omega
      have i2 : (i : Int) + 1 ≤ 9223372036854775807 := by omega
      have hip : i < l.length := by rw [← HN.out]; exact hlt
      obtain ⟨st, hst⟩ : ∃ st, st = l[i] := ⟨_, rfl⟩
      have hgt : l[i]? = some st := by rw [hst]; exact List.getElem?_eq_getElem hip
      have hbt : bgS st ≤ bgSL l := bgSA l i st hgt
      have hwf := wfL_at hW hgt
      have hBi := hB i st hgt
      have hLi := hLS i st hgt
      obtain ⟨zz1, zz2⟩ := szSL_in hgt
      have hnx : (pL t (l.take (i + 1))).length ≤ 32768 := by
        have e : pL t l = pL t (l.take (i + 1)) ++ pL t (l.drop (i + 1)) := by rw [← pL_app, List.take_append_drop]
        rw [e, List.length_append] at hlen
        omega
      have hsn : pL t (l.take (i + 1)) = pL t (l.take i) ++ (t ++ (pS t st ++ [10])) := by rw [take_snoc hgt, pL_snoc]
      have HNX : Hid (bs (pL t (l.take (i + 1))) = (OUT ++ T) ++ bs (pS t st ++ [10])) := by show _ = _; rw [hsn, HO.out, ← HT.out, bs_cat, bs_cat]; simp
      have hls := hLi.2.2 t (by omega) (by omega)
      obtain ⟨us, hty, hyc⟩ := hx.at i st hgt
      have hPi := fun (k : Int) (wd : Bs) (a b : Tr) (th el : List St) (e : st = .mk k wd a b th el) => hP i k wd a b th el (by rw [hgt, e])
      have hisF := hty.keep hK
      have hdS : t.length + (szS st).1 ≤ 24 := by omega
      have hnS : (szS st).2 ≤ 512 := by omega
      have hls3 : (pS t st).length ≤ 32768 := by omega
      clear hgt hst hip zz1 zz2 hsn
      obtain ⟨k, wd, a, b, th, el⟩ := st
      rw [bgS_eq] at hbt
      obtain ⟨-, hwd, ka, na, sa, pa, ma, ca, kb, nb, sb, pb, mb, cb, pt, ct, pe, ce, xt, xe, rfl, Ta, Tb, ot, st1, oe, se1⟩ := hty.parts
      clear hty
      obtain ⟨g, og, rfl, -⟩ := hget (i * 12) _ (hyc 0 _ rfl)
      have hq1 : ∀ (j : Nat) (u : Value), ([.int .i64 k, .string (bs wd), .int .i64 ka, .int .i64 na, .string sa, .slice pa ma ca, .int .i64 kb, .int .i64 nb, .string sb, .slice pb mb cb, .slice pt th.length ct, .slice pe el.length ce] : List Value)[j]? = some u → wr.cell? ⟨g, og + i * 12 + j, none⟩ = some u := fun j u e => by
        obtain ⟨g1, o1, eg, h6⟩ := hget _ _ (hyc j u e)
        injection eg with eg; injection eg with eg eo _; subst eg eo
        rw [Nat.add_assoc]
        exact hK.cell h6 (fun e => e)
      have hR1 := run_rs rfl hq1
      have HTA : Hid (WfE a → ∀ W, Keeps (fun _ => False) w W → Calls Tryd.prog 22 #[.agg #[.int .i64 ka, .int .i64 na, .string sa, .slice pa ma ca]] W fun e w' => e = .returned (.string (bs (pE a))) ∧ Keeps (fun _ => False) W w') := fun h W k => told_all h (by omega) W _ (Ta.keep k)
      have HTB : Hid (WfE b → ∀ W, Keeps (fun _ => False) w W → Calls Tryd.prog 22 #[.agg #[.int .i64 kb, .int .i64 nb, .string sb, .slice pb mb cb]] W fun e w' => e = .returned (.string (bs (pE b))) ∧ Keeps (fun _ => False) W w') := fun h W k => told_all h (by omega) W _ (Tb.keep k)
      have HPT : Hid (k = 5 → WfS (.mk k wd a b th el) → (pL (t ++ [9]) th).length ≤ 32768 ∧ ∀ W, Keeps (fun _ => False) w W → Calls Tryd.prog 13 #[.slice pt th.length ct, .string (T ++ ⟨#[9]⟩)] W fun e w' => e = .returned (.string (bs (pL (t ++ [9]) th))) ∧ Keeps (fun _ => False) W w') := fun h5 hw => by
        subst h5
        obtain ⟨e1, e2, e3, -⟩ : wd = [] ∧ b = tr0 ∧ el = [] ∧ True := by
          unfold WfS at hw
          rcases hw with ⟨h, _⟩ | ⟨h, _⟩ | ⟨h, _⟩ | ⟨h, _⟩ | ⟨_, h1, _, h2, _, h3⟩ | ⟨h, _⟩ | ⟨h, _⟩
          · exact absurd h (by decide)
          · exact absurd h (by decide)
          · exact absurd h (by decide)
          · exact absurd h (by decide)
          · exact ⟨h1, h2, h3, trivial⟩
          · exact absurd h (by decide)
          · exact absurd h (by decide)
        subst e1 e2 e3
        rw [sz_whl] at hnS hdS
        simp only at hnS hdS
        obtain ⟨g1, g2⟩ := hPi 5 [] a tr0 th [] rfl
        have g3 := g2 (t ++ [9]) (by omega) (by simp; omega)
        refine ⟨by omega, fun W k => ?_⟩
        rw [show T ++ ⟨#[9]⟩ = bs (t ++ [9]) from by rw [← HT.out, show (⟨#[9]⟩ : ByteArray) = bs [9] from rfl, bs_cat]]
        exact g1 (t ++ [9]) W pt ct xt (by omega) (by simp; omega) (ot.keep k) (st1.keep k)
      have HBR : Hid (k = 4 → ∀ W, Keeps (fun _ => False) wr W → Calls Tryd.prog 23 #[.agg #[.int .i64 k, .string (bs wd), .int .i64 ka, .int .i64 na, .string sa, .slice pa ma ca, .int .i64 kb, .int .i64 nb, .string sb, .slice pb mb cb, .slice pt th.length ct, .slice pe el.length ce], .string T] W fun e w' => e = .returned (.string (bs (pS t (.mk k wd a b th el) ++ [10]))) ∧ Keeps (fun _ => False) W w') := fun h4 W k => by
        have := hBi (by rw [h4]; rfl) t W _ hnS hdS (hisF.keep k)
        rw [HT.out] at this
        exact this
      have hSa : bgE a ≤ 1048576 := by omega
      have hSb : bgE b ≤ 1048576 := by omega
      clear hq1 hyc Ta Tb ot st1 oe se1 hPi hBi hisF hnS hdS hbt hLi
      obtain ⟨s, hs⟩ : ∃ s, bs wd = s := ⟨_, rfl⟩
      have hss : s.size ≤ 140737488355328 := by rw [← hs]; exact hwd
      rw [hs] at hR1 HBR
      have HSW : Hid (bs wd = s) := hs
      have hbr : (bs (pS t (.mk k wd a b th el) ++ [10])).size ≤ 40000 := by rw [bs_size, List.length_append, List.length_singleton]; omega
      have hnx2 : (bs (pL t (l.take (i + 1)))).size ≤ 32768 := hnx
      clear hs hwd hnx hls hls3
      refine wp_seq_k (fun KK hKK => ?_)
      have hKH : Hid _ := hKK
      clear hKK
      go_wp2_with fail
      refine hKH.out _ _ ?_
      clear hKH KK
      refine wp_seq_k (fun KK hKK => ?_)
      have hKH : Hid _ := hKK
      clear hKK
      refine wp_block ?_
      refine wp_seq_k (fun K2 hK2 => ?_)
      have hKI : Hid _ := hK2
      clear hK2
      go_wp2_with (refine wpList_load_runL rfl 42 _ rfl ⟨g, og + i * 12, none⟩ rfl _ hR1 ?_; clear hR1)
      refine hKI.out _ _ ?_
      clear hKI K2
      obtain ⟨w5, hw5⟩ : ∃ w5, w5 = wr.alloc (.cells #[.int .i64 k, .string s, .int .i64 ka, .int .i64 na, .string sa, .slice pa ma ca, .int .i64 kb, .int .i64 nb, .string sb, .slice pb mb cb, .slice pt th.length ct, .slice pe el.length ce] 42) := ⟨_, rfl⟩
      have hb5 : CL w5 wr.heap.size [.int .i64 k, .string s, .int .i64 ka, .int .i64 na, .string sa, .slice pa ma ca, .int .i64 kb, .int .i64 nb, .string sb, .slice pb mb cb, .slice pt th.length ct, .slice pe el.length ce] := by rw [hw5]; exact CL.made wr _ _
      have k5 : Keeps (fun _ => False) wr w5 := by rw [hw5]; exact (Keeps.refl _ wr).alloc _
      rw [← hw5]
      clear hw5
      have kw5 := hK.trans k5
      have y0 := hb5.c 0 _ rfl
      clear d1 d2 i0 i1
      have hwf2 := hwf
      unfold WfS at hwf
      rcases hwf with ⟨rfl, h1, h2, rfl, rfl, rfl⟩ | ⟨rfl, rfl, h1, h2, rfl, rfl⟩ | ⟨rfl, rfl, h1, rfl, rfl, rfl⟩ | ⟨rfl, rfl, h1, rfl, h2, h3⟩ | ⟨rfl, rfl, h1, rfl, h2, rfl⟩ | ⟨rfl, rfl, rfl, rfl, rfl, rfl⟩ | ⟨rfl, rfl, h1, rfl, rfl, rfl⟩
      · have HF : Hid (bs (pL t (l.take (i + 1))) = ((((OUT ++ T) ++ s) ++ ⟨#[32, 58, 61, 32]⟩) ++ bs (pE a)) ++ ⟨#[59, 10]⟩) := by
          show _ = _
          rw [HNX.out, ← HSW.out, ← HT.out, show (⟨#[32, 58, 61, 32]⟩ : ByteArray) = bs [32, 58, 61, 32] from rfl, show (⟨#[59, 10]⟩ : ByteArray) = bs [59, 10] from rfl]
          simp only [ByteArray.append_assoc, bs_cat]
          rw [pS, if_pos rfl]
          simp []
        have hqa0 : ∀ W, Keeps (fun _ => False) w5 W → (loadVar 40 ⟨wr.heap.size, 2, none⟩).run Tryd.prog W = .ok (.agg #[.int .i64 ka, .int .i64 na, .string sa, .slice pa ma ca]) W := fun W hW => run_er (fun j v e => (hb5.keep (by show 0 < 12; decide) hW (fun e => e)).c (2 + j) v (by rw [← List.getElem?_drop, ← e]; exact List.getElem?_append_left (l₂ := [.int .i64 kb, .int .i64 nb, .string sb, .slice pb mb cb, .slice pt _ ct, .slice pe _ ce]) (List.getElem?_eq_some_iff.1 e).1))
        have hXs : (bs (pE a)).size ≤ 1099511627776 := pE_sh h2 hSa
        have hta1 := fun W (kW : Keeps (fun _ => False) w5 W) => HTA.out h2 W (kw5.trans kW)
        generalize bs (pE a) = X at *
        rw [HF.out] at hnx2
        have HNX2 : Hid (_ = _) := HF.out
        clear HTA HTB HPT HBR HNX HF hwf2 hSa hSb
        clear hbr
        have zl0 : (⟨#[32, 58, 61, 32]⟩ : ByteArray).size = 4 := rfl
        have zl1 : (⟨#[59, 10]⟩ : ByteArray).size = 2 := rfl
        have u0 : ¬ ((OUT : ByteArray).size + (T : ByteArray).size > 9223372036854775807) := by (try simp only [ByteArray.size_append]); omega
        have t0 : ¬ (9223372036854775807 < (OUT : ByteArray).size + (T : ByteArray).size) := u0
        have u1 : ¬ ((OUT ++ T : ByteArray).size + (s : ByteArray).size > 9223372036854775807) := by (try simp only [ByteArray.size_append]); omega
        have t1 : ¬ (9223372036854775807 < (OUT ++ T : ByteArray).size + (s : ByteArray).size) := u1
        have u2 : ¬ (((OUT ++ T) ++ s : ByteArray).size + (⟨#[32, 58, 61, 32]⟩ : ByteArray).size > 9223372036854775807) := by (try simp only [ByteArray.size_append]); omega
        have t2 : ¬ (9223372036854775807 < ((OUT ++ T) ++ s : ByteArray).size + (⟨#[32, 58, 61, 32]⟩ : ByteArray).size) := u2
        have u3 : ¬ ((((OUT ++ T) ++ s) ++ ⟨#[32, 58, 61, 32]⟩ : ByteArray).size + (X : ByteArray).size > 9223372036854775807) := by (try simp only [ByteArray.size_append]); omega
        have t3 : ¬ (9223372036854775807 < (((OUT ++ T) ++ s) ++ ⟨#[32, 58, 61, 32]⟩ : ByteArray).size + (X : ByteArray).size) := u3
        have u4 : ¬ (((((OUT ++ T) ++ s) ++ ⟨#[32, 58, 61, 32]⟩) ++ X : ByteArray).size + (⟨#[59, 10]⟩ : ByteArray).size > 9223372036854775807) := by (try simp only [ByteArray.size_append]); omega
        have t4 : ¬ (9223372036854775807 < ((((OUT ++ T) ++ s) ++ ⟨#[32, 58, 61, 32]⟩) ++ X : ByteArray).size + (⟨#[59, 10]⟩ : ByteArray).size) := u4
        have Y1 := ks_cell (hb5.c 1 _ rfl)
        have hqa : ∀ W, (∃ u : KS w5, W = u.1) → (loadVar 40 ⟨wr.heap.size, 2, none⟩).run Tryd.prog W = .ok (.agg #[.int .i64 ka, .int .i64 na, .string sa, .slice pa ma ca]) W := fun W ⟨u, hu⟩ => by rw [hu]; exact hqa0 _ u.2
        have hta := fun u : KS w5 => hta1 u.1 u.2
        have hNE : Nonempty (KS w5) := ⟨⟨w5, Keeps.refl _ w5⟩⟩
        clear hqa0 hta1
        go_wp2_with fail
        refine wp_region_ks (by kernel_rfl) (by kernel_rfl) ?_
        (repeat (first | go_big_quiet_skip | (have hqx := hqa; refine wpQuiet_loadE (by kernel_rfl) 40 _ rfl ⟨wr.heap.size, 2, none⟩ rfl _ hqx ?_; clear hqx hqa; (try simp only [Act.put, List.setIfInBounds_toArray, List.set_cons_zero, List.set_cons_succ])) | go_big_quiet_step ((go_at_call 22; with_reducible refine (hta _).mono ?_; rintro e w9 ⟨rfl, k9⟩; exact ⟨rfl, ⟨_, (KS.property _).trans k9⟩, rfl⟩))))
        refine wpQuiet_nil ?_
        rintro _ ⟨U, rfl⟩
        have ku := U.property
        clear hNE hta Y1
        generalize U.val = w6 at *
        (try go_wp2_with fail)
        refine hKH.out _ _ ?_
        clear hKH
        have kF : Keeps (fun _ => False) w _ := kw5.trans ku
        clear y0 hb5 k5 kw5 hos
        go_wp2_with fail
        go_roundw
        case rel => exact ⟨i + 1, _, rfl, by go_num, by omega, hnx2, HNX2.out.symm, kF⟩
        case measure => simp [intOf]; omega
      · have HF : Hid (bs (pL t (l.take (i + 1))) = (((((OUT ++ T) ++ ⟨#[91]⟩) ++ bs (pE a)) ++ ⟨#[93, 32, 58, 61, 32]⟩) ++ bs (pE b)) ++ ⟨#[59, 10]⟩) := by
          show _ = _
          rw [HNX.out, ← HT.out, show (⟨#[59, 10]⟩ : ByteArray) = bs [59, 10] from rfl, show (⟨#[91]⟩ : ByteArray) = bs [91] from rfl, show (⟨#[93, 32, 58, 61, 32]⟩ : ByteArray) = bs [93, 32, 58, 61, 32] from rfl]
          simp only [ByteArray.append_assoc, bs_cat]
          rw [pS, if_neg (by decide), if_pos rfl]
          simp []
        have hqa0 : ∀ W, Keeps (fun _ => False) w5 W → (loadVar 40 ⟨wr.heap.size, 2, none⟩).run Tryd.prog W = .ok (.agg #[.int .i64 ka, .int .i64 na, .string sa, .slice pa ma ca]) W := fun W hW => run_er (fun j v e => (hb5.keep (by show 0 < 12; decide) hW (fun e => e)).c (2 + j) v (by rw [← List.getElem?_drop, ← e]; exact List.getElem?_append_left (l₂ := [.int .i64 kb, .int .i64 nb, .string sb, .slice pb mb cb, .slice pt _ ct, .slice pe _ ce]) (List.getElem?_eq_some_iff.1 e).1))
        have hXs : (bs (pE a)).size ≤ 1099511627776 := pE_sh h1 hSa
        have hta1 := fun W (kW : Keeps (fun _ => False) w5 W) => HTA.out h1 W (kw5.trans kW)
        generalize bs (pE a) = X at *
        have hqb0 : ∀ W, Keeps (fun _ => False) w5 W → (loadVar 40 ⟨wr.heap.size, 6, none⟩).run Tryd.prog W = .ok (.agg #[.int .i64 kb, .int .i64 nb, .string sb, .slice pb mb cb]) W := fun W hW => run_er (fun j v e => (hb5.keep (by show 0 < 12; decide) hW (fun e => e)).c (6 + j) v (by rw [← List.getElem?_drop, ← e]; exact List.getElem?_append_left (l₂ := [.slice pt _ ct, .slice pe _ ce]) (List.getElem?_eq_some_iff.1 e).1))
        have hYs : (bs (pE b)).size ≤ 1099511627776 := pE_sh h2 hSb
        have htb1 := fun W (kW : Keeps (fun _ => False) w5 W) => HTB.out h2 W (kw5.trans kW)
        generalize bs (pE b) = Y at *
        rw [HF.out] at hnx2
        have HNX2 : Hid (_ = _) := HF.out
        clear HTA HTB HPT HBR HNX HF hwf2 hSa hSb
        clear hbr
        have zl0 : (⟨#[91]⟩ : ByteArray).size = 1 := rfl
        have zl1 : (⟨#[93, 32, 58, 61, 32]⟩ : ByteArray).size = 5 := rfl
        have zl2 : (⟨#[59, 10]⟩ : ByteArray).size = 2 := rfl
        have u0 : ¬ ((OUT : ByteArray).size + (T : ByteArray).size > 9223372036854775807) := by (try simp only [ByteArray.size_append]); omega
        have t0 : ¬ (9223372036854775807 < (OUT : ByteArray).size + (T : ByteArray).size) := u0
        have u1 : ¬ ((OUT ++ T : ByteArray).size + (⟨#[91]⟩ : ByteArray).size > 9223372036854775807) := by (try simp only [ByteArray.size_append]); omega
        have t1 : ¬ (9223372036854775807 < (OUT ++ T : ByteArray).size + (⟨#[91]⟩ : ByteArray).size) := u1
        have u2 : ¬ (((OUT ++ T) ++ ⟨#[91]⟩ : ByteArray).size + (X : ByteArray).size > 9223372036854775807) := by (try simp only [ByteArray.size_append]); omega
        have t2 : ¬ (9223372036854775807 < ((OUT ++ T) ++ ⟨#[91]⟩ : ByteArray).size + (X : ByteArray).size) := u2
        have u3 : ¬ ((((OUT ++ T) ++ ⟨#[91]⟩) ++ X : ByteArray).size + (⟨#[93, 32, 58, 61, 32]⟩ : ByteArray).size > 9223372036854775807) := by (try simp only [ByteArray.size_append]); omega
        have t3 : ¬ (9223372036854775807 < (((OUT ++ T) ++ ⟨#[91]⟩) ++ X : ByteArray).size + (⟨#[93, 32, 58, 61, 32]⟩ : ByteArray).size) := u3
        have u4 : ¬ (((((OUT ++ T) ++ ⟨#[91]⟩) ++ X) ++ ⟨#[93, 32, 58, 61, 32]⟩ : ByteArray).size + (Y : ByteArray).size > 9223372036854775807) := by (try simp only [ByteArray.size_append]); omega
        have t4 : ¬ (9223372036854775807 < ((((OUT ++ T) ++ ⟨#[91]⟩) ++ X) ++ ⟨#[93, 32, 58, 61, 32]⟩ : ByteArray).size + (Y : ByteArray).size) := u4
        have u5 : ¬ ((((((OUT ++ T) ++ ⟨#[91]⟩) ++ X) ++ ⟨#[93, 32, 58, 61, 32]⟩) ++ Y : ByteArray).size + (⟨#[59, 10]⟩ : ByteArray).size > 9223372036854775807) := by (try simp only [ByteArray.size_append]); omega
        have t5 : ¬ (9223372036854775807 < (((((OUT ++ T) ++ ⟨#[91]⟩) ++ X) ++ ⟨#[93, 32, 58, 61, 32]⟩) ++ Y : ByteArray).size + (⟨#[59, 10]⟩ : ByteArray).size) := u5
        have hqa : ∀ W, (∃ u : KS w5, W = u.1) → (loadVar 40 ⟨wr.heap.size, 2, none⟩).run Tryd.prog W = .ok (.agg #[.int .i64 ka, .int .i64 na, .string sa, .slice pa ma ca]) W := fun W ⟨u, hu⟩ => by rw [hu]; exact hqa0 _ u.2
        have hta := fun u : KS w5 => hta1 u.1 u.2
        have hqb : ∀ W, (∃ u : KS w5, W = u.1) → (loadVar 40 ⟨wr.heap.size, 6, none⟩).run Tryd.prog W = .ok (.agg #[.int .i64 kb, .int .i64 nb, .string sb, .slice pb mb cb]) W := fun W ⟨u, hu⟩ => by rw [hu]; exact hqb0 _ u.2
        have htb := fun u : KS w5 => htb1 u.1 u.2
        have hNE : Nonempty (KS w5) := ⟨⟨w5, Keeps.refl _ w5⟩⟩
        clear hqa0 hta1 hqb0 htb1
        go_wp2_with fail
        refine wp_region_ks (by kernel_rfl) (by kernel_rfl) ?_
        (repeat (first | go_big_quiet_skip | (have hqx := hqa; refine wpQuiet_loadE (by kernel_rfl) 40 _ rfl ⟨wr.heap.size, 2, none⟩ rfl _ hqx ?_; clear hqx hqa; (try simp only [Act.put, List.setIfInBounds_toArray, List.set_cons_zero, List.set_cons_succ])) | (have hqx := hqb; refine wpQuiet_loadE (by kernel_rfl) 40 _ rfl ⟨wr.heap.size, 6, none⟩ rfl _ hqx ?_; clear hqx hqb; (try simp only [Act.put, List.setIfInBounds_toArray, List.set_cons_zero, List.set_cons_succ])) | go_big_quiet_step (first | (go_at_call 22; with_reducible refine (hta _).mono ?_; rintro e w9 ⟨rfl, k9⟩; exact ⟨rfl, ⟨_, (KS.property _).trans k9⟩, rfl⟩) | (go_at_call 22; with_reducible refine (htb _).mono ?_; rintro e w9 ⟨rfl, k9⟩; exact ⟨rfl, ⟨_, (KS.property _).trans k9⟩, rfl⟩))))
        refine wpQuiet_nil ?_
        rintro _ ⟨U, rfl⟩
        have ku := U.property
        clear hNE hta htb
        generalize U.val = w6 at *
        (try go_wp2_with fail)
        refine hKH.out _ _ ?_
        clear hKH
        have kF : Keeps (fun _ => False) w _ := kw5.trans ku
        clear y0 hb5 k5 kw5 hos
        go_wp2_with fail
        go_roundw
        case rel => exact ⟨i + 1, _, rfl, by go_num, by omega, hnx2, HNX2.out.symm, kF⟩
        case measure => simp [intOf]; omega
      · have HF : Hid (bs (pL t (l.take (i + 1))) = (((OUT ++ T) ++ ⟨#[114, 101, 108, 101, 97, 115, 101, 32, 91]⟩) ++ bs (pE a)) ++ ⟨#[93, 59, 10]⟩) := by
          show _ = _
          rw [HNX.out, ← HT.out, show (⟨#[114, 101, 108, 101, 97, 115, 101, 32, 91]⟩ : ByteArray) = bs [114, 101, 108, 101, 97, 115, 101, 32, 91] from rfl, show (⟨#[93, 59, 10]⟩ : ByteArray) = bs [93, 59, 10] from rfl]
          simp only [ByteArray.append_assoc, bs_cat]
          rw [pS, if_neg (by decide), if_neg (by decide), if_pos rfl]
          simp [kRel]
        have hqa0 : ∀ W, Keeps (fun _ => False) w5 W → (loadVar 40 ⟨wr.heap.size, 2, none⟩).run Tryd.prog W = .ok (.agg #[.int .i64 ka, .int .i64 na, .string sa, .slice pa ma ca]) W := fun W hW => run_er (fun j v e => (hb5.keep (by show 0 < 12; decide) hW (fun e => e)).c (2 + j) v (by rw [← List.getElem?_drop, ← e]; exact List.getElem?_append_left (l₂ := [.int .i64 kb, .int .i64 nb, .string sb, .slice pb mb cb, .slice pt _ ct, .slice pe _ ce]) (List.getElem?_eq_some_iff.1 e).1))
        have hXs : (bs (pE a)).size ≤ 1099511627776 := pE_sh h1 hSa
        have hta1 := fun W (kW : Keeps (fun _ => False) w5 W) => HTA.out h1 W (kw5.trans kW)
        generalize bs (pE a) = X at *
        rw [HF.out] at hnx2
        have HNX2 : Hid (_ = _) := HF.out
        clear HTA HTB HPT HBR HNX HF hwf2 hSa hSb
        clear hbr
        have zl0 : (⟨#[114, 101, 108, 101, 97, 115, 101, 32, 91]⟩ : ByteArray).size = 9 := rfl
        have zl1 : (⟨#[93, 59, 10]⟩ : ByteArray).size = 3 := rfl
        have u0 : ¬ ((OUT : ByteArray).size + (T : ByteArray).size > 9223372036854775807) := by (try simp only [ByteArray.size_append]); omega
        have t0 : ¬ (9223372036854775807 < (OUT : ByteArray).size + (T : ByteArray).size) := u0
        have u1 : ¬ ((OUT ++ T : ByteArray).size + (⟨#[114, 101, 108, 101, 97, 115, 101, 32, 91]⟩ : ByteArray).size > 9223372036854775807) := by (try simp only [ByteArray.size_append]); omega
        have t1 : ¬ (9223372036854775807 < (OUT ++ T : ByteArray).size + (⟨#[114, 101, 108, 101, 97, 115, 101, 32, 91]⟩ : ByteArray).size) := u1
        have u2 : ¬ (((OUT ++ T) ++ ⟨#[114, 101, 108, 101, 97, 115, 101, 32, 91]⟩ : ByteArray).size + (X : ByteArray).size > 9223372036854775807) := by (try simp only [ByteArray.size_append]); omega
        have t2 : ¬ (9223372036854775807 < ((OUT ++ T) ++ ⟨#[114, 101, 108, 101, 97, 115, 101, 32, 91]⟩ : ByteArray).size + (X : ByteArray).size) := u2
        have u3 : ¬ ((((OUT ++ T) ++ ⟨#[114, 101, 108, 101, 97, 115, 101, 32, 91]⟩) ++ X : ByteArray).size + (⟨#[93, 59, 10]⟩ : ByteArray).size > 9223372036854775807) := by (try simp only [ByteArray.size_append]); omega
        have t3 : ¬ (9223372036854775807 < (((OUT ++ T) ++ ⟨#[114, 101, 108, 101, 97, 115, 101, 32, 91]⟩) ++ X : ByteArray).size + (⟨#[93, 59, 10]⟩ : ByteArray).size) := u3
        have hqa1 := hqa0 w5 (Keeps.refl _ w5)
        have hta2 := hta1 w5 (Keeps.refl _ w5)
        clear hqa0 hta1
        go_wp2_with (first | (refine wpList_load_runL rfl 40 _ rfl ⟨wr.heap.size, 2, none⟩ rfl _ hqa1 ?_; clear hqa1) | (go_at_call 22; refine hta2.mono ?_; clear hta2; rintro e w6 ⟨rfl, ku⟩))
        refine hKH.out _ _ ?_
        clear hKH
        have kF : Keeps (fun _ => False) w _ := kw5.trans ku
        clear y0 hb5 k5 kw5 hos
        go_wp2_with fail
        go_roundw
        case rel => exact ⟨i + 1, _, rfl, by go_num, by omega, hnx2, HNX2.out.symm, kF⟩
        case measure => simp [intOf]; omega
      · have HF : Hid (bs (pL t (l.take (i + 1))) = (OUT ++ T) ++ bs (pS t (.mk 4 [] a tr0 th el) ++ [10])) := HNX.out
        have hbr1 := HBR.out rfl w5 k5
        have hRs := run_rs (b := wr.heap.size) (o := 0) rfl (fun j u e => by rw [Nat.zero_add]; exact hb5.c j u e)
        generalize bs (pS t (.mk 4 [] a tr0 th el) ++ [10]) = BR at *
        rw [HF.out] at hnx2
        have HNX2 : Hid (_ = _) := HF.out
        clear HTA HTB HPT HBR HNX HF hwf2 hSa hSb
        have u0 : ¬ ((OUT : ByteArray).size + (T : ByteArray).size > 9223372036854775807) := by (try simp only [ByteArray.size_append]); omega
        have t0 : ¬ (9223372036854775807 < (OUT : ByteArray).size + (T : ByteArray).size) := u0
        have u1 : ¬ ((OUT ++ T : ByteArray).size + (BR : ByteArray).size > 9223372036854775807) := by (try simp only [ByteArray.size_append]); omega
        have t1 : ¬ (9223372036854775807 < (OUT ++ T : ByteArray).size + (BR : ByteArray).size) := u1
        go_wp2_with (first | (refine wpList_load_runL rfl 42 _ rfl ⟨wr.heap.size, 0, none⟩ rfl _ hRs ?_; clear hRs) | (go_at_call 23; refine hbr1.mono ?_; clear hbr1; rintro e w6 ⟨rfl, ku⟩))
        refine hKH.out _ _ ?_
        clear hKH
        have kF : Keeps (fun _ => False) w _ := kw5.trans ku
        clear y0 hb5 k5 kw5 hos
        go_wp2_with fail
        go_roundw
        case rel => exact ⟨i + 1, _, rfl, by go_num, by omega, hnx2, HNX2.out.symm, kF⟩
        case measure => simp [intOf]; omega
      · have HF : Hid (bs (pL t (l.take (i + 1))) = ((((((OUT ++ T) ++ ⟨#[119, 104, 105, 108, 101, 32]⟩) ++ bs (pE a)) ++ ⟨#[32, 123, 10]⟩) ++ bs (pL (t ++ [9]) th)) ++ T) ++ ⟨#[125, 10]⟩) := by
          show _ = _
          rw [HNX.out, ← HT.out, show (⟨#[119, 104, 105, 108, 101, 32]⟩ : ByteArray) = bs [119, 104, 105, 108, 101, 32] from rfl, show (⟨#[32, 123, 10]⟩ : ByteArray) = bs [32, 123, 10] from rfl, show (⟨#[125, 10]⟩ : ByteArray) = bs [125, 10] from rfl]
          simp only [ByteArray.append_assoc, bs_cat]
          rw [pS, if_neg (by decide), if_neg (by decide), if_neg (by decide), if_neg (by decide), if_pos rfl]
          simp [kWhile]
        have hqa0 : ∀ W, Keeps (fun _ => False) w5 W → (loadVar 40 ⟨wr.heap.size, 2, none⟩).run Tryd.prog W = .ok (.agg #[.int .i64 ka, .int .i64 na, .string sa, .slice pa ma ca]) W := fun W hW => run_er (fun j v e => (hb5.keep (by show 0 < 12; decide) hW (fun e => e)).c (2 + j) v (by rw [← List.getElem?_drop, ← e]; exact List.getElem?_append_left (l₂ := [.int .i64 kb, .int .i64 nb, .string sb, .slice pb mb cb, .slice pt _ ct, .slice pe _ ce]) (List.getElem?_eq_some_iff.1 e).1))
        have hXs : (bs (pE a)).size ≤ 1099511627776 := pE_sh h1 hSa
        have hta1 := fun W (kW : Keeps (fun _ => False) w5 W) => HTA.out h1 W (kw5.trans kW)
        generalize bs (pE a) = X at *
        obtain ⟨hpl, hpc⟩ := HPT.out rfl hwf2
        have hPs : (bs (pL (t ++ [9]) th)).size ≤ 32768 := hpl
        have hpt1 := fun W (kW : Keeps (fun _ => False) w5 W) => hpc W (kw5.trans kW)
        generalize bs (pL (t ++ [9]) th) = PT at *
        clear hpl hpc
        rw [HF.out] at hnx2
        have HNX2 : Hid (_ = _) := HF.out
        clear HTA HTB HPT HBR HNX HF hwf2 hSa hSb
        clear hbr
        have zl0 : (⟨#[119, 104, 105, 108, 101, 32]⟩ : ByteArray).size = 6 := rfl
        have zl1 : (⟨#[32, 123, 10]⟩ : ByteArray).size = 3 := rfl
        have zl2 : (⟨#[125, 10]⟩ : ByteArray).size = 2 := rfl
        have zl3 : (⟨#[9]⟩ : ByteArray).size = 1 := rfl
        have u0 : ¬ ((OUT : ByteArray).size + (T : ByteArray).size > 9223372036854775807) := by (try simp only [ByteArray.size_append]); omega
        have t0 : ¬ (9223372036854775807 < (OUT : ByteArray).size + (T : ByteArray).size) := u0
        have u1 : ¬ ((OUT ++ T : ByteArray).size + (⟨#[119, 104, 105, 108, 101, 32]⟩ : ByteArray).size > 9223372036854775807) := by (try simp only [ByteArray.size_append]); omega
        have t1 : ¬ (9223372036854775807 < (OUT ++ T : ByteArray).size + (⟨#[119, 104, 105, 108, 101, 32]⟩ : ByteArray).size) := u1
        have u2 : ¬ (((OUT ++ T) ++ ⟨#[119, 104, 105, 108, 101, 32]⟩ : ByteArray).size + (X : ByteArray).size > 9223372036854775807) := by (try simp only [ByteArray.size_append]); omega
        have t2 : ¬ (9223372036854775807 < ((OUT ++ T) ++ ⟨#[119, 104, 105, 108, 101, 32]⟩ : ByteArray).size + (X : ByteArray).size) := u2
        have u3 : ¬ ((((OUT ++ T) ++ ⟨#[119, 104, 105, 108, 101, 32]⟩) ++ X : ByteArray).size + (⟨#[32, 123, 10]⟩ : ByteArray).size > 9223372036854775807) := by (try simp only [ByteArray.size_append]); omega
        have t3 : ¬ (9223372036854775807 < (((OUT ++ T) ++ ⟨#[119, 104, 105, 108, 101, 32]⟩) ++ X : ByteArray).size + (⟨#[32, 123, 10]⟩ : ByteArray).size) := u3
        have u4 : ¬ (((((OUT ++ T) ++ ⟨#[119, 104, 105, 108, 101, 32]⟩) ++ X) ++ ⟨#[32, 123, 10]⟩ : ByteArray).size + (PT : ByteArray).size > 9223372036854775807) := by (try simp only [ByteArray.size_append]); omega
        have t4 : ¬ (9223372036854775807 < ((((OUT ++ T) ++ ⟨#[119, 104, 105, 108, 101, 32]⟩) ++ X) ++ ⟨#[32, 123, 10]⟩ : ByteArray).size + (PT : ByteArray).size) := u4
        have u5 : ¬ ((((((OUT ++ T) ++ ⟨#[119, 104, 105, 108, 101, 32]⟩) ++ X) ++ ⟨#[32, 123, 10]⟩) ++ PT : ByteArray).size + (T : ByteArray).size > 9223372036854775807) := by (try simp only [ByteArray.size_append]); omega
        have t5 : ¬ (9223372036854775807 < (((((OUT ++ T) ++ ⟨#[119, 104, 105, 108, 101, 32]⟩) ++ X) ++ ⟨#[32, 123, 10]⟩) ++ PT : ByteArray).size + (T : ByteArray).size) := u5
        have u6 : ¬ (((((((OUT ++ T) ++ ⟨#[119, 104, 105, 108, 101, 32]⟩) ++ X) ++ ⟨#[32, 123, 10]⟩) ++ PT) ++ T : ByteArray).size + (⟨#[125, 10]⟩ : ByteArray).size > 9223372036854775807) := by (try simp only [ByteArray.size_append]); omega
        have t6 : ¬ (9223372036854775807 < ((((((OUT ++ T) ++ ⟨#[119, 104, 105, 108, 101, 32]⟩) ++ X) ++ ⟨#[32, 123, 10]⟩) ++ PT) ++ T : ByteArray).size + (⟨#[125, 10]⟩ : ByteArray).size) := u6
        have u7 : ¬ ((T : ByteArray).size + (⟨#[9]⟩ : ByteArray).size > 9223372036854775807) := by (try simp only [ByteArray.size_append]); omega
        have t7 : ¬ (9223372036854775807 < (T : ByteArray).size + (⟨#[9]⟩ : ByteArray).size) := u7
        have Y10 := ks_cell (hb5.c 10 _ rfl)
        have hqa : ∀ W, (∃ u : KS w5, W = u.1) → (loadVar 40 ⟨wr.heap.size, 2, none⟩).run Tryd.prog W = .ok (.agg #[.int .i64 ka, .int .i64 na, .string sa, .slice pa ma ca]) W := fun W ⟨u, hu⟩ => by rw [hu]; exact hqa0 _ u.2
        have hta := fun u : KS w5 => hta1 u.1 u.2
        have hpt := fun u : KS w5 => hpt1 u.1 u.2
        have hNE : Nonempty (KS w5) := ⟨⟨w5, Keeps.refl _ w5⟩⟩
        clear hqa0 hta1 hpt1
        go_wp2_with fail
        refine wp_region_ks (by kernel_rfl) (by kernel_rfl) ?_
        (repeat (first | go_big_quiet_skip | (have hqx := hqa; refine wpQuiet_loadE (by kernel_rfl) 40 _ rfl ⟨wr.heap.size, 2, none⟩ rfl _ hqx ?_; clear hqx hqa; (try simp only [Act.put, List.setIfInBounds_toArray, List.set_cons_zero, List.set_cons_succ])) | go_big_quiet_step (first | (go_at_call 22; with_reducible refine (hta _).mono ?_; rintro e w9 ⟨rfl, k9⟩; exact ⟨rfl, ⟨_, (KS.property _).trans k9⟩, rfl⟩) | (go_at_call 13; with_reducible refine (hpt _).mono ?_; rintro e w9 ⟨rfl, k9⟩; exact ⟨rfl, ⟨_, (KS.property _).trans k9⟩, rfl⟩))))
        refine wpQuiet_nil ?_
        rintro _ ⟨U, rfl⟩
        have ku := U.property
        clear hNE hta hpt Y10
        generalize U.val = w6 at *
        (try go_wp2_with fail)
        refine hKH.out _ _ ?_
        clear hKH
        have kF : Keeps (fun _ => False) w _ := kw5.trans ku
        clear y0 hb5 k5 kw5 hos
        go_wp2_with fail
        go_roundw
        case rel => exact ⟨i + 1, _, rfl, by go_num, by omega, hnx2, HNX2.out.symm, kF⟩
        case measure => simp [intOf]; omega
      · have HF : Hid (bs (pL t (l.take (i + 1))) = (OUT ++ T) ++ ⟨#[97, 98, 111, 114, 116, 59, 10]⟩) := by
          show _ = _
          rw [HNX.out, ← HT.out, show (⟨#[97, 98, 111, 114, 116, 59, 10]⟩ : ByteArray) = bs [97, 98, 111, 114, 116, 59, 10] from rfl]
          simp only [ByteArray.append_assoc, bs_cat]
          rw [pS, if_neg (by decide), if_neg (by decide), if_neg (by decide), if_neg (by decide), if_neg (by decide), if_pos rfl]
          simp [kAbort]
        rw [HF.out] at hnx2
        have HNX2 : Hid (_ = _) := HF.out
        clear HTA HTB HPT HBR HNX HF hwf2 hSa hSb
        clear hbr
        have zl0 : (⟨#[97, 98, 111, 114, 116, 59, 10]⟩ : ByteArray).size = 7 := rfl
        have u0 : ¬ ((OUT : ByteArray).size + (T : ByteArray).size > 9223372036854775807) := by (try simp only [ByteArray.size_append]); omega
        have t0 : ¬ (9223372036854775807 < (OUT : ByteArray).size + (T : ByteArray).size) := u0
        have u1 : ¬ ((OUT ++ T : ByteArray).size + (⟨#[97, 98, 111, 114, 116, 59, 10]⟩ : ByteArray).size > 9223372036854775807) := by (try simp only [ByteArray.size_append]); omega
        have t1 : ¬ (9223372036854775807 < (OUT ++ T : ByteArray).size + (⟨#[97, 98, 111, 114, 116, 59, 10]⟩ : ByteArray).size) := u1
        go_wp2_with fail
        refine hKH.out _ _ ?_
        clear hKH
        have kF : Keeps (fun _ => False) w _ := kw5
        clear y0 hb5 k5 kw5 hos
        go_wp2_with fail
        go_roundw
        case rel => exact ⟨i + 1, _, rfl, by go_num, by omega, hnx2, HNX2.out.symm, kF⟩
        case measure => simp [intOf]; omega
      · have HF : Hid (bs (pL t (l.take (i + 1))) = (((OUT ++ T) ++ ⟨#[114, 101, 116, 117, 114, 110, 32]⟩) ++ bs (pE a)) ++ ⟨#[59, 10]⟩) := by
          show _ = _
          rw [HNX.out, ← HT.out, show (⟨#[59, 10]⟩ : ByteArray) = bs [59, 10] from rfl, show (⟨#[114, 101, 116, 117, 114, 110, 32]⟩ : ByteArray) = bs [114, 101, 116, 117, 114, 110, 32] from rfl]
          simp only [ByteArray.append_assoc, bs_cat]
          rw [pS, if_neg (by decide), if_neg (by decide), if_neg (by decide), if_neg (by decide), if_neg (by decide), if_neg (by decide)]
          simp [kRet]
        have hqa0 : ∀ W, Keeps (fun _ => False) w5 W → (loadVar 40 ⟨wr.heap.size, 2, none⟩).run Tryd.prog W = .ok (.agg #[.int .i64 ka, .int .i64 na, .string sa, .slice pa ma ca]) W := fun W hW => run_er (fun j v e => (hb5.keep (by show 0 < 12; decide) hW (fun e => e)).c (2 + j) v (by rw [← List.getElem?_drop, ← e]; exact List.getElem?_append_left (l₂ := [.int .i64 kb, .int .i64 nb, .string sb, .slice pb mb cb, .slice pt _ ct, .slice pe _ ce]) (List.getElem?_eq_some_iff.1 e).1))
        have hXs : (bs (pE a)).size ≤ 1099511627776 := pE_sh h1 hSa
        have hta1 := fun W (kW : Keeps (fun _ => False) w5 W) => HTA.out h1 W (kw5.trans kW)
        generalize bs (pE a) = X at *
        rw [HF.out] at hnx2
        have HNX2 : Hid (_ = _) := HF.out
        clear HTA HTB HPT HBR HNX HF hwf2 hSa hSb
        clear hbr
        have zl0 : (⟨#[114, 101, 116, 117, 114, 110, 32]⟩ : ByteArray).size = 7 := rfl
        have zl1 : (⟨#[59, 10]⟩ : ByteArray).size = 2 := rfl
        have u0 : ¬ ((OUT : ByteArray).size + (T : ByteArray).size > 9223372036854775807) := by (try simp only [ByteArray.size_append]); omega
        have t0 : ¬ (9223372036854775807 < (OUT : ByteArray).size + (T : ByteArray).size) := u0
        have u1 : ¬ ((OUT ++ T : ByteArray).size + (⟨#[114, 101, 116, 117, 114, 110, 32]⟩ : ByteArray).size > 9223372036854775807) := by (try simp only [ByteArray.size_append]); omega
        have t1 : ¬ (9223372036854775807 < (OUT ++ T : ByteArray).size + (⟨#[114, 101, 116, 117, 114, 110, 32]⟩ : ByteArray).size) := u1
        have u2 : ¬ (((OUT ++ T) ++ ⟨#[114, 101, 116, 117, 114, 110, 32]⟩ : ByteArray).size + (X : ByteArray).size > 9223372036854775807) := by (try simp only [ByteArray.size_append]); omega
        have t2 : ¬ (9223372036854775807 < ((OUT ++ T) ++ ⟨#[114, 101, 116, 117, 114, 110, 32]⟩ : ByteArray).size + (X : ByteArray).size) := u2
        have u3 : ¬ ((((OUT ++ T) ++ ⟨#[114, 101, 116, 117, 114, 110, 32]⟩) ++ X : ByteArray).size + (⟨#[59, 10]⟩ : ByteArray).size > 9223372036854775807) := by (try simp only [ByteArray.size_append]); omega
        have t3 : ¬ (9223372036854775807 < (((OUT ++ T) ++ ⟨#[114, 101, 116, 117, 114, 110, 32]⟩) ++ X : ByteArray).size + (⟨#[59, 10]⟩ : ByteArray).size) := u3
        have hqa1 := hqa0 w5 (Keeps.refl _ w5)
        have hta2 := hta1 w5 (Keeps.refl _ w5)
        clear hqa0 hta1
        go_wp2_with (first | (refine wpList_load_runL rfl 40 _ rfl ⟨wr.heap.size, 2, none⟩ rfl _ hqa1 ?_; clear hqa1) | (go_at_call 22; refine hta2.mono ?_; clear hta2; rintro e w6 ⟨rfl, ku⟩))
        refine hKH.out _ _ ?_
        clear hKH
        have kF : Keeps (fun _ => False) w _ := kw5.trans ku
        clear y0 hb5 k5 kw5 hos
        go_wp2_with fail
        go_roundw
        case rel => exact ⟨i + 1, _, rfl, by go_num, by omega, hnx2, HNX2.out.symm, kF⟩
        case measure => simp [intOf]; omega
    · obtain rfl : i = N := by omega
      have d1 : decide ((i : Int) < (i : Int)) = false := decide_eq_false (by omega)
      have d2 : decide (i < i) = false := decide_eq_false (by omega)
      have HF : Hid (OUT = RES) := by show _ = _; rw [HO.out, ← HRES.out]; congr 2; rw [HN.out]; exact List.take_length
      go_wp2_with fail
      go_ret
      exact ⟨congrArg (fun x => Ending.returned (.string x)) HF.out, hK⟩
end Go.Proofs.YtehblpbefkopbaaDoor
namespace Go.Proofs.YtehblpbefkopbaaDoor
open Go.RowKit Go.ChangeShapes Go.WideShapes Go.ChangeAt Go.Deep
attribute [local go_sem] Oper.semAt_some run_store_nf run_store_f
/-! The law SourcePrints. -/
theorem wf_th {k : Int} {wd : Bs} {a b : Tr} {th el : List St} (h : WfS (.mk k wd a b th el)) : WfL th := by
  unfold WfS at h
  rcases h with ⟨-, -, -, -, rfl, -⟩ | ⟨-, -, -, -, rfl, -⟩ | ⟨-, -, -, -, rfl, -⟩ | ⟨-, -, -, -, h, -⟩ | ⟨-, -, -, -, h, -⟩ | ⟨-, -, -, -, rfl, -⟩ | ⟨-, -, -, -, rfl, -⟩ <;> first | exact h | (unfold WfL; trivial)
theorem pr_all : ∀ n : Nat, n ≤ 1048576 → (∀ l : List St, bgSL l ≤ n → WfL l → PrL l) ∧ (∀ s : St, bgS s ≤ n → WfS s → kdS s = 4 → BrS s)
  | 0, _ => by
    refine ⟨fun l hl hw => ?_, fun s hs => absurd hs (by have := bgS_pos s; omega)⟩
    cases l with
    | nil => exact pr_step hw (by omega) (fun i s h => by cases h) (fun i k wd a b th el h => by cases h) (fun i s h => by cases h) ((lnS 0).2 [] hl hw)
    | cons s r => exact absurd hl (by have := bgS_pos s; rw [bgSL]; omega)
  | n + 1, hn => by
    obtain ⟨i1, i2⟩ := pr_all n (by omega)
    have j2 : ∀ s : St, bgS s ≤ n + 1 → WfS s → kdS s = 4 → BrS s := by
      intro s hs hw h4
      obtain ⟨k, wd, a, b, th, el⟩ := s
      have h4' : k = 4 := h4
      subst h4'
      rw [bgS_eq] at hs
      have ha := bgE_pos a
      unfold WfS at hw
      rcases hw with ⟨h, _⟩ | ⟨h, _⟩ | ⟨h, _⟩ | ⟨-, rfl, h1, rfl, h2, h3⟩ | ⟨h, _⟩ | ⟨h, _⟩ | ⟨h, _⟩
      · exact absurd h (by decide)
      · exact absurd h (by decide)
      · exact absurd h (by decide)
      · refine br_step (told_all h1 (by omega)) (pE_sh h1 (by omega)) (i1 th (by omega) h2) (i1 el (by omega) h3) (fun s e h5 => ?_) ((lnS (bgSL th)).2 th (Nat.le_refl _) h2) ((lnS (bgSL el)).2 el (Nat.le_refl _) h3) (fun s e h4 => ?_)
        · subst e
          have e : bgSL [s] = bgS s := by rw [bgSL, bgSL]; rfl
          rw [e] at hs
          unfold WfL at h3
          exact i2 s (by omega) h3.1 h5
        · subst e
          unfold WfL at h3
          exact (lnS (bgS s)).1 s (Nat.le_refl _) h3.1
      · exact absurd h (by decide)
      · exact absurd h (by decide)
      · exact absurd h (by decide)
    refine ⟨fun l hl hw => ?_, j2⟩
    refine pr_step hw (by omega) (fun i s h h4 => j2 s (Nat.le_trans (bgSA l i s h) hl) (wfL_at hw h) h4) (fun i k wd a b th el h => ?_) (fun i s h => (lnS (bgS s)).1 s (Nat.le_refl _) (wfL_at hw h)) ((lnS (bgSL l)).2 l (Nat.le_refl _) hw)
    have h5 := bgSA l i _ h
    rw [bgS_eq] at h5
    have ha := bgE_pos a
    have h6 := wf_th (wfL_at hw h)
    exact ⟨i1 th (by omega) h6, (lnS (bgSL th)).2 th (Nat.le_refl _) h6⟩
/-- What Print answers. -/
def prS (l : List St) : ByteArray := if chk l = 0 then bs (pL [] l) else ⟨#[]⟩
set_option maxHeartbeats 1000000 in
set_option maxRecDepth 100000 in
theorem pPrint_any {w : World} {l : List St} {p : Option Addr} {c : Nat} (hG : PG w) (h : PtL w w.heap.size p c l) (hb : bgSL l ≤ 549755813888) (hw : wrSL l = false → WfL l) : Calls Tryd.prog 5 #[.slice p l.length c] w fun e w' => e = .returned (.tuple #[.string (prS l), .int .i64 (chk l)]) ∧ Keeps (fun _ => False) w w' := by
  by_cases hc : chk l = 0
  · have := print_any hG h hc (hw (chk_zero hc).1)
    unfold prS
    rw [if_pos hc, hc]
    exact this
  · unfold prS
    rw [if_neg hc]
    obtain ⟨xs, h1, h2⟩ := h
    have hC := check_any hG.g hG.h h1 h2 hb
    obtain ⟨n, hn⟩ : ∃ n, n = l.length := ⟨_, rfl⟩
    rw [← hn] at hC ⊢
    obtain ⟨C, hC0⟩ : ∃ C, C = chk l := ⟨_, rfl⟩
    rw [← hC0] at hC hc ⊢
    have e0 : (C != 0) = true := bne_iff_ne.2 hc
    clear hn h1 h2 hG hC0 hc hw hb
    go_enter Tryd.func5, Tryd.ntmps5
    go_wp2_with (go_at_call 10; refine hC.mono ?_; clear hC; rintro e w1 ⟨rfl, k1⟩)
    go_ret2
    exact ⟨rfl, k1⟩
set_option maxHeartbeats 1000000 in
set_option maxRecDepth 100000 in
theorem rPrint_any {w : World} {l : List St} {p : Option Addr} {c : Nat} {xs : List Value} (hA : AllS l) (hb : bgSL l < 1048576) (hR : Rd w p xs) (hI : ISL w l xs) (hw : wrSL l = false → WfL l) : Calls Tryd.prog 6 #[.slice p l.length c] w fun e w' => e = .returned (.tuple #[.string (prS l), .int .i64 (chk l)]) ∧ Keeps (fun _ => False) w w' := by
  have hC := rCheck_any (c := c) hA hb hR hI
  unfold prS
  by_cases hc : chk l = 0
  · obtain ⟨g1, g2, g3⟩ := chk_zero hc
    have hP := fun W (k : Keeps (fun _ => False) w W) => (pr_all 1048576 (Nat.le_refl _)).1 l (by omega) (hw g1) [] W p c xs g3 (by simpa using g2) (hR.keep k) (hI.keep k)
    rw [if_pos hc]
    rw [hc] at hC ⊢
    rw [show bs [] = ⟨#[]⟩ from rfl] at hP
    obtain ⟨n, hn⟩ : ∃ n, n = l.length := ⟨_, rfl⟩
    simp only [← hn] at hC hP ⊢
    generalize bs (pL [] l) = S at *
    clear hn hR hI hA hc hw g1 g2 g3
    go_enter Tryd.func6, Tryd.ntmps6
    go_wp2_with (first | (go_at_call 12; refine hC.mono ?_; clear hC; rintro e w1 ⟨rfl, k1⟩; have hP1 := hP w1 k1) | (go_at_call 13; refine hP1.mono ?_; clear hP1; rintro e w2 ⟨rfl, k2⟩))
    go_ret2
    exact ⟨rfl, k1.trans k2⟩
  · rw [if_neg hc]
    obtain ⟨n, hn⟩ : ∃ n, n = l.length := ⟨_, rfl⟩
    rw [← hn] at hC ⊢
    obtain ⟨C, hC0⟩ : ∃ C, C = chk l := ⟨_, rfl⟩
    rw [← hC0] at hC hc ⊢
    have e0 : (C != 0) = true := bne_iff_ne.2 hc
    clear hn hR hI hA hC0 hc hw hb
    go_enter Tryd.func6, Tryd.ntmps6
    go_wp2_with (go_at_call 12; refine hC.mono ?_; clear hC; rintro e w1 ⟨rfl, k1⟩)
    go_ret2
    exact ⟨rfl, k1⟩
def T8 : List St := [.mk 6 [] tr0 tr0 [] []]
theorem chk_T8 : chk T8 = 0 := by kernel_rfl
theorem prS_T8 : prS T8 = ⟨#[97, 98, 111, 114, 116, 59, 10]⟩ := by
  unfold prS
  rw [if_pos chk_T8]
  rfl
theorem bg_T8 : bgSL T8 = 3 := by kernel_rfl
theorem wf_T8 : WfL T8 := by
  unfold T8 WfL
  refine ⟨?_, by unfold WfL; trivial⟩
  unfold WfS
  exact .inr (.inr (.inr (.inr (.inr (.inl ⟨rfl, rfl, rfl, rfl, rfl, rfl⟩)))))
set_option maxHeartbeats 4000000 in
set_option maxRecDepth 100000 in
theorem prints_law {w : World} (hG : PG w) {l : List St} {p : Option Addr} {c : Nat} {xs : List Value} (hR : Rd w p xs) (hI : ISL w l xs) (hA : AllS l) (hb : bgSL l < 1048576) : Calls Tryd.prog 3 #[.slice p l.length c] w fun e w' => e = .returned (.bool true) ∧ Below w.heap.size w w' := by
  have hF := ftSL_of l (by omega)
  have hN := bgSL_len l
  have hg1 := pg_all (bgSL l + 1) l (by omega) hF (by omega) w p c xs hR hI
  have HPr : Hid _ := fun (hw : wrSL l = false → WfL l) W (k : Keeps (fun _ => False) w W) (p : Option Addr) (c : Nat) (xs : List Value) (ho : OwnP W (fun g => g < W.heap.size) 34 12 (.slice p l.length c) l.length xs) (hx : SL W (fun g => g < W.heap.size) 32 34 l xs) => pPrint_any (w := W) (hG.keep k) (l := l) (p := p) (c := c) ⟨xs, ho, hx⟩ (by omega) hw
  have HRp : Hid _ := fun (hw : wrSL l = false → WfL l) W (k : Keeps (fun _ => False) w W) => rPrint_any (w := W) (c := c) hA hb (hR.keep k) (hI.keep k) hw
  have HGG : Hid (∀ W, Keeps (fun _ => False) w W → PG W) := fun W k => hG.keep k
  have HWF : Hid _ := fun (W : World) (P : Nat → Prop) (e s : TypeId) (xs : List Value) (hx : SL W P e s l xs) => hx.wf
  have HBk : Hid _ := fun (W : World) (P : Nat → Prop) (p : Option Addr) (c : Nat) (xs : List Value) => bk_all 1048576 l (by omega) (Nat.le_refl _) W P p c xs
  have HSm : Hid _ := fun (W : World) (p : Option Addr) (c : Nat) (xs : List Value) (p' : Option Addr) (c' : Nat) (xs' : List Value) => smI_all 1048576 l (by omega) (Nat.le_refl _) W p c xs p' c' xs'
  have HR : Hid (Rd w p xs) := hR
  have HI : Hid (ISL w l xs) := hI
  clear hG hR hI hA hb hF hN
  obtain ⟨C, hC⟩ : ∃ C, chk l = C := ⟨_, rfl⟩
  obtain ⟨S, hS⟩ : ∃ S, prS l = S := ⟨_, rfl⟩
  obtain ⟨n, hn⟩ : ∃ n, l.length = n := ⟨_, rfl⟩
  simp only [hC, hS, hn] at HPr HRp hg1 HBk HSm ⊢
  clear hC hS hn
  have eS : (S.toList == S.toList) = true := by simp
  have eC : (C == C) = true := by simp
  go_enter Tryd.func3, Tryd.ntmps3
  refine wp_seq_k (fun KK hKK => ?_)
  have hKH : Hid _ := hKK
  clear hKK
  go_wp2_with fail
  refine hKH.out _ _ ?_
  clear hKH KK
  refine wp_seq_k (fun KK hKK => ?_)
  have hKH : Hid _ := hKK
  clear hKK
  go_wp2_with (go_at_call 4; refine hg1.mono ?_; clear hg1; rintro e w1 ⟨p1, c1, x1, rfl, O1, X1, k1⟩)
  refine hKH.out _ _ ?_
  clear hKH KK
  have hw := HWF.out _ _ _ _ _ X1
  have hp1 := HPr.out hw w1 k1 p1 c1 x1 (O1.lt.mono (fun _ hg => hg.2)) (X1.lt.mono (fun _ hg => hg.2))
  refine wp_seq_k (fun KK hKK => ?_)
  have hKH : Hid _ := hKK
  clear hKK
  go_wp2_with (go_at_call 5; refine hp1.mono ?_; clear hp1; rintro e w2 ⟨rfl, k2⟩)
  refine hKH.out _ _ ?_
  clear hKH KK HPr
  have hr2 := HRp.out hw w2 (k1.trans k2)
  refine wp_seq_k (fun KK hKK => ?_)
  have hKH : Hid _ := hKK
  clear hKK
  go_wp2_with (go_at_call 6; refine hr2.mono ?_; clear hr2; rintro e w3 ⟨rfl, k3⟩)
  refine hKH.out _ _ ?_
  clear hKH KK HRp hw
  have k13 := k2.trans k3
  have O3 := O1.lt.stay (k13.stay (fun _ _ _ e => e))
  have X3 := X1.lt.stay (k13.stay (fun _ _ _ e => e))
  have k03 := k1.trans k13
  clear O1 X1 k1 k2 k3 k13
  obtain ⟨Vb, hVb⟩ : ∃ Vb, Vb = w3.alloc (.cells #[.int .i64 6, .string ⟨#[]⟩, .int .i64 0, .int .i64 0, .string ⟨#[]⟩, .slice none 0 0, .int .i64 0, .int .i64 0, .string ⟨#[]⟩, .slice none 0 0, .slice none 0 0, .slice none 0 0] 34) := ⟨_, rfl⟩
  have kVb : Keeps (fun _ => False) w3 Vb := by rw [hVb]; exact (Keeps.refl _ w3).alloc _
  have oVb : OwnP Vb (fun _ => True) 34 12 (.slice (some ⟨w3.heap.size, 0, none⟩) 1 1) 1 [.int .i64 6, .string ⟨#[]⟩, .int .i64 0, .int .i64 0, .string ⟨#[]⟩, .slice none 0 0, .int .i64 0, .int .i64 0, .string ⟨#[]⟩, .slice none 0 0, .slice none 0 0, .slice none 0 0] := by rw [hVb]; exact ⟨own_lit w3 _ _ _ _ rfl (by decide), fun _ _ => trivial⟩
  have xVb : SL Vb (fun _ => True) 32 34 T8 [.int .i64 6, .string ⟨#[]⟩, .int .i64 0, .int .i64 0, .string ⟨#[]⟩, .slice none 0 0, .int .i64 0, .int .i64 0, .string ⟨#[]⟩, .slice none 0 0, .slice none 0 0, .slice none 0 0] := SL.snoc (SC.join (w := Vb) (P := fun _ => True) (k := 6) (wd := []) (th := []) (el := []) i64d (by decide) (tr0_cells _ _ _) (tr0_cells _ _ _) (ownP_nil _ _ _ _) (SL.nil _ _ _ _) (ownP_nil _ _ _ _) (SL.nil _ _ _ _)) (SL.nil Vb (fun _ => True) 32 34)
  have KVb := k03.trans kVb
  have hC9 := pPrint_any (w := Vb) (l := T8) (c := 1) (p := some ⟨w3.heap.size, 0, none⟩) (HGG.out _ KVb) ⟨_, oVb.lt.mono (fun g hg => hg.2), xVb.lt.mono (fun g hg => hg.2)⟩ (by rw [bg_T8]; decide) (fun _ => wf_T8)
  rw [prS_T8, chk_T8] at hC9
  refine wp_seq_k (fun KK hKK => ?_)
  have hKH : Hid _ := hKK
  clear hKK
  go_wp2_with (first | (refine wpList_build1L uSt inSt (by decide) (by decide) rfl _  rfl [.int .i64 6, .string ⟨#[]⟩, .int .i64 0, .int .i64 0, .string ⟨#[]⟩, .slice none 0 0, .int .i64 0, .int .i64 0, .string ⟨#[]⟩, .slice none 0 0, .slice none 0 0, .slice none 0 0] rfl rfl ?_; (try simp only [Act.put, List.setIfInBounds_toArray, List.set_cons_zero, List.set_cons_succ])) | (go_at_call 5; rw [← hVb]; refine hC9.mono ?_; clear hC9; rintro e w4 ⟨rfl, k4⟩))
  refine hKH.out _ _ ?_
  clear hKH KK
  have k34 := kVb.trans k4
  have O4 := O3.stay (k34.stay (fun _ _ _ e => e))
  have X4 := X3.stay (k34.stay (fun _ _ _ e => e))
  have K4 := k03.trans k34
  have hB := HBk.out w4 _ p1 c1 x1 O4 X4
  clear hVb kVb oVb xVb KVb k4 k34 k03 O3 X3 O4 X4 HGG HWF HBk
  go_wp2_with (first | (go_at_call 8; refine hB.mono ?_; clear hB; rintro e w8 ⟨p8, c8, x8, rfl, O8, X8, k8⟩; have hS2 := HSm.out w8 p8 c8 x8 p c xs O8.rd X8.toI (Rd.keep HR.out (K4.trans k8)) (ISL.keep (K4.trans k8) HI.out); clear HSm O8 X8) | (go_at_call 7; refine hS2.mono ?_; clear hS2; rintro e w9 ⟨rfl, k9⟩))
  go_ret
  exact ⟨rfl, ((K4.trans k8).trans k9).below (Nat.le_refl _) (fun _ _ e => e)⟩
end Go.Proofs.YtehblpbefkopbaaDoor
