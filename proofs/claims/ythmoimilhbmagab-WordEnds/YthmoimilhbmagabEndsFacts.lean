import Derived.Test.YthmoimilhbmagabSatFacts
namespace Go.Proofs.Ythmoimilhbmagab
open Go.RowKit

theorem sum_up {a b : Int} (ha : In64 a) (hb : In64 b) (h : 9223372036854775807 < a + b) :
    (decide (0 ≤ a) && decide (0 ≤ b) && decide (ap 1 a b < 0)) = true ∧ (clamp (a + b) != 9223372036854775807) = false := by
  unfold In64 at ha hb
  refine ⟨?_, neF (clamp_hi (by omega)).symm⟩
  have : ap 1 a b < 0 := by rw [ap1]; unfold wrap64; omega
  simp; omega
theorem sum_down {a b : Int} (ha : In64 a) (hb : In64 b) (h : a + b < -9223372036854775808) :
    (decide (0 ≤ a) && decide (0 ≤ b) && decide (ap 1 a b < 0)) = false ∧ (decide (a < 0) && decide (b < 0) && decide (0 ≤ ap 1 a b)) = true ∧ (clamp (a + b) != -9223372036854775808) = false := by
  unfold In64 at ha hb
  have : 0 ≤ ap 1 a b := by rw [ap1]; unfold wrap64; omega
  refine ⟨?_, ?_, neF (clamp_lo (by omega)).symm⟩
  · rw [Bool.and_eq_false_iff]; right; simp; omega
  · simp; omega
theorem sum_in {a b : Int} (h1 : -9223372036854775808 ≤ a + b) (h2 : a + b ≤ 9223372036854775807) :
    (decide (0 ≤ a) && decide (0 ≤ b) && decide (ap 1 a b < 0)) = false ∧ (decide (a < 0) && decide (b < 0) && decide (0 ≤ ap 1 a b)) = false ∧ (clamp (a + b) != ap 1 a b) = false := by
  have e : ap 1 a b = a + b := by rw [ap1]; exact wrap_id ⟨h1, h2⟩
  rw [e]
  refine ⟨?_, ?_, neF (clamp_in rfl h1 h2).symm⟩
  · by_cases g : 0 ≤ a ∧ 0 ≤ b
    · rw [Bool.and_eq_false_iff]; right; simp; omega
    · rw [Bool.and_eq_false_iff]; left; simp; omega
  · by_cases g : a < 0 ∧ b < 0
    · rw [Bool.and_eq_false_iff]; right; simp; omega
    · rw [Bool.and_eq_false_iff]; left; simp; omega
theorem sum_mono {a b k : Int} (h : a ≤ k) : clamp (a + b) ≤ clamp (k + b) := by unfold clamp; split <;> split <;> (try split) <;> (try split) <;> omega

/-- The product's ways. -/
theorem prod_zero (a : Int) : (clamp (a * 0) == ap 3 a 0) = true := by
  rw [ap3, Int.mul_zero]; decide +kernel
theorem prod_in {a b : Int} (ha : In64 a) (hb0 : b ≠ 0) (h : In64 (a * b)) :
    (ap 4 (ap 3 a b) b == a) = true ∧ (ap 5 (ap 3 a b) b == 0) = true ∧ (clamp (a * b) == ap 3 a b) = true ∧ ((a == -9223372036854775808) = false ∨ ((a == -9223372036854775808) = true ∧ (b == -1) = false)) := by
  have e : ap 3 a b = a * b := by rw [ap3]; exact wrap_id h
  rw [e]
  refine ⟨?_, ?_, ?_, ?_⟩
  · rw [ap4, if_neg hb0, Int.mul_tdiv_cancel _ hb0, wrap_id ha]; simp
  · rw [ap5, if_neg hb0, Int.mul_tmod_left]; simp
  · rw [← clamp_in rfl h.1 h.2]; simp
  · by_cases g : a = -9223372036854775808
    · refine .inr ⟨eqT g, eqF ?_⟩; intro g2; subst g g2; unfold In64 at h; omega
    · exact .inl (eqF g)
theorem prod_out {a b : Int} (hb0 : b ≠ 0) (h : ¬ In64 (a * b)) (h4 : ap 4 (ap 3 a b) b = a) (h5 : ap 5 (ap 3 a b) b = 0) : a = -9223372036854775808 ∧ b = -1 := by
  have hm : In64 (ap 3 a b) := by rw [ap3]; exact wrap_in _
  generalize ap 3 a b = m at *
  rw [ap4, if_neg hb0] at h4
  rw [ap5, if_neg hb0] at h5
  have e := Int.mul_tdiv_add_tmod m b
  rw [h5, Int.add_zero] at e
  have hq : In64 (m.tdiv b) ∨ m.tdiv b = 9223372036854775808 := by
    have h1 : (m.tdiv b).natAbs ≤ m.natAbs := by rw [Int.natAbs_tdiv]; exact Nat.div_le_self _ _
    unfold In64 at hm ⊢
    omega
  rcases hq with hq | hq
  · rw [wrap_id hq] at h4
    rw [h4, Int.mul_comm] at e
    rw [e] at h
    exact absurd hm h
  · rw [hq] at h4 e
    have h6 : a = -9223372036854775808 := by rw [← h4]; decide +kernel
    refine ⟨h6, ?_⟩
    unfold In64 at hm
    have hbu : b * 9223372036854775808 = m := e
    omega
theorem mul_same {a b : Int} (s : (a < 0) = (b < 0)) : 0 ≤ a * b := by
  by_cases g : a < 0
  · have g2 : b < 0 := by rw [← s]; exact g
    exact Int.mul_nonneg_of_nonpos_of_nonpos (by omega) (by omega)
  · have g2 : ¬ b < 0 := by rw [← s]; exact g
    exact Int.mul_nonneg (by omega) (by omega)
theorem mul_diff {a b : Int} (s : (a < 0) ≠ (b < 0)) : a * b ≤ 0 := by
  by_cases g : a < 0
  · have g2 : ¬ b < 0 := fun k => s (by simp [g, k])
    exact Int.mul_nonpos_of_nonpos_of_nonneg (by omega) (by omega)
  · have g2 : b < 0 := by
      by_cases k : b < 0
      · exact k
      · exact absurd (by simp [g, k]) s
    exact Int.mul_nonpos_of_nonneg_of_nonpos (by omega) (by omega)
theorem out_same {a b : Int} (h : ¬ In64 (a * b)) (s : (a < 0) = (b < 0)) : (clamp (a * b) == 9223372036854775807) = true := by
  have := mul_same s
  unfold In64 at h
  rw [← clamp_hi (by omega)]; simp
theorem out_diff {a b : Int} (h : ¬ In64 (a * b)) (s : (a < 0) ≠ (b < 0)) : (clamp (a * b) == -9223372036854775808) = true := by
  have := mul_diff s
  unfold In64 at h
  rw [← clamp_lo (by omega)]; simp

/-- All ways of the product at once. -/
theorem prod_ways (a b : Int) (ha : In64 a) (hb0 : b ≠ 0) :
    ((ap 4 (ap 3 a b) b == a) = true ∧ (ap 5 (ap 3 a b) b == 0) = true ∧ (clamp (a * b) == ap 3 a b) = true ∧ ((a == -9223372036854775808) = false ∨ ((a == -9223372036854775808) = true ∧ (b == -1) = false))) ∨
    (((ap 4 (ap 3 a b) b == a) = false ∨ ((ap 4 (ap 3 a b) b == a) = true ∧ (ap 5 (ap 3 a b) b == 0) = false)) ∧
      (((decide (a < 0) == decide (b < 0)) = true ∧ (clamp (a * b) == 9223372036854775807) = true) ∨ ((decide (a < 0) == decide (b < 0)) = false ∧ (clamp (a * b) == -9223372036854775808) = true))) ∨
    ((ap 4 (ap 3 a b) b == a) = true ∧ (ap 5 (ap 3 a b) b == 0) = true ∧ (a == -9223372036854775808) = true ∧ (b == -1) = true ∧ (decide (a < 0) == decide (b < 0)) = true ∧ (clamp (a * b) == 9223372036854775807) = true) := by
  by_cases h : In64 (a * b)
  · exact .inl (prod_in ha hb0 h)
  right
  have hs : ((decide (a < 0) == decide (b < 0)) = true ∧ (clamp (a * b) == 9223372036854775807) = true) ∨ ((decide (a < 0) == decide (b < 0)) = false ∧ (clamp (a * b) == -9223372036854775808) = true) := by
    by_cases s : (a < 0) = (b < 0)
    · exact .inl ⟨by simp [s], out_same h s⟩
    · exact .inr ⟨by rw [beq_eq_false_iff_ne]; intro k; exact s (by simpa using k), out_diff h s⟩
  by_cases h4 : ap 4 (ap 3 a b) b = a
  · by_cases h5 : ap 5 (ap 3 a b) b = 0
    · obtain ⟨g1, g2⟩ := prod_out hb0 h h4 h5
      exact .inr ⟨eqT h4, eqT h5, eqT g1, eqT g2, by subst g1 g2; rfl, out_same h (by subst g1 g2; decide)⟩
    · exact .inl ⟨.inr ⟨eqT h4, eqF h5⟩, hs⟩
  · exact .inl ⟨.inl (eqF h4), hs⟩
end Go.Proofs.Ythmoimilhbmagab
