import Derived.Test.YtehblpbefkopbaaDoorPlain
namespace Go.Proofs.YtehblpbefkopbaaDoor
open Go.RowKit

/-- A number of int64. -/
def In64 (a : Int) : Prop := -9223372036854775808 ≤ a ∧ a ≤ 9223372036854775807

theorem in64_of_wf {a : Int} (h : (Lit.int .i64 a).wf = true) : In64 a := by
  simp [Lit.wf, IntKind.min, IntKind.max, IntKind.signed, IntKind.bits] at h
  unfold In64; omega
theorem wf_of_in64 {a : Int} (h : In64 a) : (Lit.int .i64 a).wf = true := by
  unfold In64 at h
  simp [Lit.wf, IntKind.min, IntKind.max, IntKind.signed, IntKind.bits]
  omega

theorem neF {x y : Int} (h : x = y) : (x != y) = false := by simp [h]
theorem neT {x y : Int} (h : x ≠ y) : (x != y) = true := by simp [h]
theorem eqT {x y : Int} (h : x = y) : (x == y) = true := by simp [h]
theorem eqF {x y : Int} (h : x ≠ y) : (x == y) = false := by simp [h]

theorem wrap_in (n : Int) : In64 (wrap64 n) := by unfold In64 wrap64; omega
theorem wrap_id {n : Int} (h : In64 n) : wrap64 n = n := by unfold In64 at h; unfold wrap64; omega
theorem wrap_ex (n : Int) : ∃ q : Int, wrap64 n = n + q * 18446744073709551616 :=
  ⟨-((n + 9223372036854775808) / 18446744073709551616), by unfold wrap64; omega⟩
theorem wrap_shift (n q : Int) : wrap64 (n + q * 18446744073709551616) = wrap64 n := by unfold wrap64; omega
theorem wrap_congr {m n : Int} (h : ∃ q : Int, m = n + q * 18446744073709551616) : wrap64 m = wrap64 n := by
  obtain ⟨q, rfl⟩ := h; exact wrap_shift n q
theorem wrap_wrap_add (a b : Int) : wrap64 (wrap64 a + b) = wrap64 (a + b) := by
  obtain ⟨q, hq⟩ := wrap_ex a; rw [hq]; exact wrap_congr ⟨q, by omega⟩
theorem wrap_add_wrap (a b : Int) : wrap64 (a + wrap64 b) = wrap64 (a + b) := by
  obtain ⟨q, hq⟩ := wrap_ex b; rw [hq]; exact wrap_congr ⟨q, by omega⟩
theorem wrap_wrap_sub (a b : Int) : wrap64 (wrap64 a - b) = wrap64 (a - b) := by
  obtain ⟨q, hq⟩ := wrap_ex a; rw [hq]; exact wrap_congr ⟨q, by omega⟩
theorem wrap_sub_wrap (a b : Int) : wrap64 (a - wrap64 b) = wrap64 (a - b) := by
  obtain ⟨q, hq⟩ := wrap_ex b; rw [hq]; exact wrap_congr ⟨-q, by omega⟩
theorem wrap_wrap_mul (a b : Int) : wrap64 (wrap64 a * b) = wrap64 (a * b) := by
  obtain ⟨q, hq⟩ := wrap_ex a; rw [hq]
  exact wrap_congr ⟨q * b, by rw [Int.add_mul, Int.mul_assoc, Int.mul_assoc, Int.mul_comm 18446744073709551616 b]⟩
theorem wrap_mul_wrap (a b : Int) : wrap64 (a * wrap64 b) = wrap64 (a * b) := by
  rw [Int.mul_comm, wrap_wrap_mul, Int.mul_comm]

/-! The ring. -/
theorem ring_one (a : Int) (h : In64 a) : ap 3 1 a = a := by rw [ap3, Int.one_mul, wrap_id h]
theorem ring_zero (a : Int) (h : In64 a) : ap 1 0 a = a := by rw [ap1, Int.zero_add, wrap_id h]
theorem ring_addC (a b : Int) : ap 1 a b = ap 1 b a := by rw [ap1, ap1, Int.add_comm]
theorem ring_mulC (a b : Int) : ap 3 a b = ap 3 b a := by rw [ap3, ap3, Int.mul_comm]
theorem ring_undo (a b : Int) (h : In64 a) : ap 2 (ap 1 a b) b = a := by
  rw [ap2, ap1, wrap_wrap_sub, show a + b - b = a by omega, wrap_id h]
theorem ring_addA (a b k : Int) : ap 1 (ap 1 a b) k = ap 1 a (ap 1 b k) := by
  rw [ap1, ap1, ap1, ap1, wrap_wrap_add, wrap_add_wrap, Int.add_assoc]
theorem ring_mulA (a b k : Int) : ap 3 (ap 3 a b) k = ap 3 a (ap 3 b k) := by
  rw [ap3, ap3, ap3, ap3, wrap_wrap_mul, wrap_mul_wrap, Int.mul_assoc]
theorem ring_dist (a b k : Int) : ap 3 (ap 1 a b) k = ap 1 (ap 3 a k) (ap 3 b k) := by
  rw [ap3, ap1, ap1, ap3, ap3, wrap_wrap_mul, wrap_wrap_add, wrap_add_wrap, Int.add_mul]

/-! Quotient and rest. -/
theorem div_back (a b : Int) (h : In64 a) : ap 1 (ap 3 (ap 4 a b) b) (ap 5 a b) = a := by
  rw [ap1, ap3, ap4, ap5]
  by_cases hb : b = 0
  · subst hb; simp [wrap_id h, show wrap64 0 = 0 by unfold wrap64; omega]
  · rw [if_neg hb, if_neg hb, wrap_wrap_add]
    obtain ⟨q, hq⟩ := wrap_ex (a.tdiv b)
    rw [hq]
    have e : a = b * a.tdiv b + a.tmod b := (Int.mul_tdiv_add_tmod a b).symm
    have e2 : (a.tdiv b + q * 18446744073709551616) * b + a.tmod b = a + (q * b) * 18446744073709551616 := by
      rw [Int.add_mul, Int.mul_comm (a.tdiv b) b, Int.mul_assoc, Int.mul_assoc, Int.mul_comm 18446744073709551616 b]
      omega
    rw [e2, wrap_shift, wrap_id h]
theorem rem_pos (a b : Int) (hb : b ≠ 0) (h : 0 ≤ a) : 0 ≤ ap 5 a b := by
  rw [ap5, if_neg hb]; exact Int.tmod_nonneg _ h
theorem rem_neg (a b : Int) (hb : b ≠ 0) (h : a ≤ 0) : ap 5 a b ≤ 0 := by
  rw [ap5, if_neg hb]
  have := Int.tmod_nonneg b (show 0 ≤ -a by omega)
  rw [Int.neg_tmod] at this; omega
theorem rem_small (a b : Int) (hb : b ≠ 0) : (ap 5 a b).natAbs < b.natAbs := by
  rw [ap5, if_neg hb, Int.natAbs_tmod]
  exact Nat.mod_lt _ (by omega)
end Go.Proofs.YtehblpbefkopbaaDoor
