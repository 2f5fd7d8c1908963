import Derived.Test.YthmoimilhbmagacDoorRefParseFacts
import Derived.Test.YthmoimilhbmagacDoorSatFacts
namespace Go.Proofs.YthmoimilhbmagacDoor
open Go.RowKit

/-- A number's text with one byte more. -/
theorem longer_bad (n : Int) (c : UInt8) (h : c.toNat < 48 ∨ 57 < c.toNat ∨ n = 0) : prsV (Lib.itoa n ++ [c]) = 0 ∧ prsE (Lib.itoa n ++ [c]) = 12 := by
  refine prs_bad ?_
  have notDig : (c.toNat < 48 ∨ 57 < c.toNat) → digB c = false := by
    intro k
    rw [Bool.eq_false_iff]; intro q
    have := (digB_iff c).1 q
    omega
  by_cases h0 : n = 0
  · subst h0
    rw [itoa_pos' (by decide), show (0 : Int).natAbs = 0 from rfl, dec_small (by decide)]
    rfl
  · have hc := notDig (by omega)
    by_cases hn : n < 0
    · rw [itoa_neg' hn]
      obtain ⟨e, r, he, h49⟩ := dec_head n.natAbs (by omega)
      rw [he, List.cons_append, List.cons_append, numForm_cons, if_pos (by decide)]
      simp only
      rw [if_neg (by omega), ← List.cons_append, List.all_append]
      simp [hc]
    · rw [itoa_pos' hn]
      obtain ⟨e, r, he, h49⟩ := dec_head n.natAbs (by omega)
      have hd := dec_digs n.natAbs
      rw [he] at hd ⊢
      rw [List.all_cons, Bool.and_eq_true] at hd
      have h6 := (digB_iff e).1 hd.1
      rw [List.cons_append, numForm_cons, if_neg (by omega), if_neg (by omega), ← List.cons_append, List.all_append]
      simp [hc]
theorem longer_form (n : Int) (c : UInt8) (h1 : 48 ≤ c.toNat) (h2 : c.toNat ≤ 57) (h0 : n ≠ 0) :
    numForm (Lib.itoa n ++ [c]) = true ∧ neg? (Lib.itoa n ++ [c]) = decide (n < 0) ∧ natv 0 (digs (Lib.itoa n ++ [c])) = n.natAbs * 10 + (c.toNat - 48) := by
  have hc : digB c = true := (digB_iff c).2 ⟨h1, h2⟩
  obtain ⟨e, r, he, h49⟩ := dec_head n.natAbs (by omega)
  have hd := dec_digs n.natAbs
  have hv := dec_natv n.natAbs
  by_cases hn : n < 0
  · rw [itoa_neg' hn]
    refine ⟨?_, ?_, ?_⟩
    · rw [he] at hd ⊢
      rw [List.cons_append, List.cons_append, numForm_cons, if_pos (by decide)]
      simp only
      rw [if_neg (by omega), ← List.cons_append, List.all_append, hd]
      simp [hc]
    · rw [List.cons_append]; show decide ((45 : UInt8).toNat = 45) = _; simp [hn]
    · rw [List.cons_append]
      show natv 0 (if (45 : UInt8).toNat = 45 then Lib.decDigits n.natAbs ++ [c] else 45 :: (Lib.decDigits n.natAbs ++ [c])) = _
      rw [if_pos (by decide), natv_snoc, hv]
  · rw [itoa_pos' hn]
    have h5 := hd
    rw [he, List.all_cons, Bool.and_eq_true] at h5
    have h6 := (digB_iff e).1 h5.1
    refine ⟨?_, ?_, ?_⟩
    · rw [he] at hd ⊢
      rw [List.cons_append, numForm_cons, if_neg (by omega), if_neg (by omega), ← List.cons_append, List.all_append, hd]
      simp [hc]
    · rw [he, List.cons_append]; show decide (e.toNat = 45) = _; simp [hn]; omega
    · have hg : digs (Lib.decDigits n.natAbs ++ [c]) = Lib.decDigits n.natAbs ++ [c] := by
        rw [he, List.cons_append]; show (if e.toNat = 45 then r ++ [c] else e :: (r ++ [c])) = _; rw [if_neg (by omega)]
      rw [hg, natv_snoc, hv]
/-- The digit with the number's sign. -/
def sgn (n : Int) (c : UInt8) : Int := if n < 0 then -((c.toNat : Int) - 48) else (c.toNat : Int) - 48
theorem longer_in (n : Int) (c : UInt8) (h1 : 48 ≤ c.toNat) (h2 : c.toNat ≤ 57) (h0 : n ≠ 0) (h : In64 (n * 10 + sgn n c)) : prsV (Lib.itoa n ++ [c]) = n * 10 + sgn n c ∧ prsE (Lib.itoa n ++ [c]) = 0 := by
  obtain ⟨f1, f2, f3⟩ := longer_form n c h1 h2 h0
  have hl : lim (Lib.itoa n ++ [c]) = if n < 0 then 9223372036854775808 else 9223372036854775807 := by unfold lim; rw [f2]; by_cases k : n < 0 <;> simp [k]
  have := prs_of f1 f3 (by rw [hl]; unfold In64 sgn at h; split at h <;> split <;> omega)
  rw [f2] at this
  refine ⟨this.1.trans ?_, this.2⟩
  unfold sgn
  by_cases k : n < 0
  · simp [k]; omega
  · simp [k]; omega
theorem longer_out (n : Int) (c : UInt8) (h1 : 48 ≤ c.toNat) (h2 : c.toNat ≤ 57) (h0 : n ≠ 0) (h : ¬ In64 (n * 10 + sgn n c)) : prsV (Lib.itoa n ++ [c]) = 0 ∧ prsE (Lib.itoa n ++ [c]) = 13 := by
  obtain ⟨f1, f2, f3⟩ := longer_form n c h1 h2 h0
  have hl : lim (Lib.itoa n ++ [c]) = if n < 0 then 9223372036854775808 else 9223372036854775807 := by unfold lim; rw [f2]; by_cases k : n < 0 <;> simp [k]
  exact prs_range f1 (by rw [f3, hl]; unfold In64 sgn at h; split at h <;> split <;> omega)
/-- Beyond int64, as the sums tell it. -/
theorem beyond_in (n d : Int) (hn : In64 n) (hs : (n < 0 → d ≤ 0) ∧ (0 ≤ n → 0 ≤ d)) (h : In64 (n * 10 + d)) :
    (ap 4 (ap 3 n 10) 10 != n) = false ∧ (clamp (ap 3 n 10 + d) != ap 1 (ap 3 n 10) d) = false ∧ ap 1 (ap 3 n 10) d = n * 10 + d ∧ In64 (ap 3 n 10) := by
  have h10 : In64 (n * 10) := by unfold In64 at *; omega
  have e : ap 3 n 10 = n * 10 := by rw [ap3, wrap_id h10]
  rw [e]
  refine ⟨?_, ?_, ?_, h10⟩
  · rw [ap4, if_neg (by decide), Int.mul_tdiv_cancel _ (by decide), wrap_id hn]; simp
  · rw [ap1, wrap_id h, ← clamp_in rfl h.1 h.2]; simp
  · rw [ap1, wrap_id h]
theorem beyond_out (n d : Int) (hn : In64 n) (hd : -9 ≤ d ∧ d ≤ 9) (h : ¬ In64 (n * 10 + d)) :
    In64 (ap 3 n 10) ∧ ((ap 4 (ap 3 n 10) 10 != n) = true ∨ ((ap 4 (ap 3 n 10) 10 != n) = false ∧ (clamp (ap 3 n 10 + d) != ap 1 (ap 3 n 10) d) = true)) := by
  have hi : In64 (ap 3 n 10) := by rw [ap3]; exact wrap_in _
  refine ⟨hi, ?_⟩
  by_cases k : ap 4 (ap 3 n 10) 10 = n
  · right
    refine ⟨neF k, neT ?_⟩
    have e10 : ap 3 n 10 = n * 10 := by
      obtain ⟨q, hq⟩ := wrap_ex (n * 10)
      rw [← ap3] at hq
      rw [ap4, if_neg (by decide)] at k
      have hm := Int.mul_tdiv_add_tmod (ap 3 n 10) 10
      have hr : (Int.tmod (ap 3 n 10) 10).natAbs < 10 := by rw [Int.natAbs_tmod]; exact Nat.mod_lt _ (by decide)
      have hq2 : In64 ((ap 3 n 10).tdiv 10) := by
        have : ((ap 3 n 10).tdiv 10).natAbs ≤ (ap 3 n 10).natAbs / 10 := by rw [Int.natAbs_tdiv]; exact Nat.le_refl _
        unfold In64 at hi ⊢; omega
      rw [wrap_id hq2] at k
      rw [k] at hm
      omega
    rw [e10] at hi ⊢
    rw [ap1]
    unfold In64 at *
    unfold clamp wrap64
    split
    · omega
    · split <;> omega
  · exact .inl (neT k)
end Go.Proofs.YthmoimilhbmagacDoor
