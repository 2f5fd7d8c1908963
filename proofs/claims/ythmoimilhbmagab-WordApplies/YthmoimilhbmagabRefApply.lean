import Derived.Test.YthmoimilhbmagabRefQuo
import Derived.Test.YthmoimilhbmagabRefBitsLoop
namespace Go.Proofs.Ythmoimilhbmagab
open Go.ChangeShapes Go.WideShapes Go.ChangeAt Go.RowKit

/-- The error beside an operator's answer. -/
def ae (op : Int) : Int := if 1 ≤ op ∧ op ≤ 12 then 0 else 10

theorem rem_in (a b : Int) (h : In64 a) : In64 (ap 5 a b) := by
  by_cases hb : b = 0
  · rw [ap5, if_pos hb]; exact h
  · have h1 : (ap 5 a b).natAbs ≤ a.natAbs := by rw [ap5, if_neg hb, Int.natAbs_tmod]; exact Nat.mod_le _ _
    have h2 := rem_pos a b hb
    have h3 := rem_neg a b hb
    unfold In64 at *
    by_cases g : 0 ≤ a
    · have := h2 g; omega
    · have := h3 (by omega); omega
theorem ref_rem (a b : Int) (h : In64 a) : wrap64 (a - wrap64 (ap 4 a b * b)) = ap 5 a b := by
  have hb := div_back a b h
  rw [ap1, ap3] at hb
  obtain ⟨t, ht⟩ := wrap_ex (wrap64 (ap 4 a b * b) + ap 5 a b)
  rw [ht] at hb
  rw [show a - wrap64 (ap 4 a b * b) = ap 5 a b + t * 18446744073709551616 by omega, wrap_shift, wrap_id (rem_in a b h)]
theorem ap_bad (op a b : Int) (h : op < 1 ∨ 12 < op) : ap op a b = 0 := by
  unfold ap
  rw [if_neg (by omega), if_neg (by omega), if_neg (by omega), if_neg (by omega), if_neg (by omega), if_neg (by omega), if_neg (by omega), if_neg (by omega), if_neg (by omega), if_neg (by omega), if_neg (by omega), if_neg (by omega)]
theorem ap11' (a b : Int) : ap 11 a b = if a < b then a else b := by rw [ap11]; split <;> split <;> omega
theorem ap12' (a b : Int) : ap 12 a b = if b < a then a else b := by rw [ap12]; split <;> split <;> omega
theorem refApply1 (a b : Int) (_ha : In64 a) (_hb : In64 b) (w : World) :
    Calls Try.prog 19 #[.int .i64 1, .int .i64 a, .int .i64 b] w fun e w' => e = .returned (.tuple #[.int .i64 (ap 1 a b), .int .i64 0]) ∧ w' = w := by
  go_enter Try.func19, Try.ntmps19
  go_wp2
  go_ret2
  exact ⟨rfl, rfl⟩
theorem refApply2 (a b : Int) (_ha : In64 a) (_hb : In64 b) (w : World) :
    Calls Try.prog 19 #[.int .i64 2, .int .i64 a, .int .i64 b] w fun e w' => e = .returned (.tuple #[.int .i64 (ap 2 a b), .int .i64 0]) ∧ w' = w := by
  go_enter Try.func19, Try.ntmps19
  go_wp2
  go_ret2
  exact ⟨rfl, rfl⟩
theorem refApply3 (a b : Int) (_ha : In64 a) (_hb : In64 b) (w : World) :
    Calls Try.prog 19 #[.int .i64 3, .int .i64 a, .int .i64 b] w fun e w' => e = .returned (.tuple #[.int .i64 (ap 3 a b), .int .i64 0]) ∧ w' = w := by
  go_enter Try.func19, Try.ntmps19
  go_wp2
  go_ret2
  exact ⟨rfl, rfl⟩
theorem refApply4 (a b : Int) (ha : In64 a) (hb : In64 b) (w : World) :
    Calls Try.prog 19 #[.int .i64 4, .int .i64 a, .int .i64 b] w fun e w' => e = .returned (.tuple #[.int .i64 (ap 4 a b), .int .i64 0]) ∧ w' = w := by
  go_enter Try.func19, Try.ntmps19
  go_wp2_with (go_at_call 39; refine (quotient_any _ _ (by assumption) (by assumption) _).mono ?_; rintro e w' ⟨rfl, rfl⟩)
  go_ret2
  exact ⟨rfl, rfl⟩
theorem refApply5 (a b : Int) (ha : In64 a) (hb : In64 b) (w : World) :
    Calls Try.prog 19 #[.int .i64 5, .int .i64 a, .int .i64 b] w fun e w' => e = .returned (.tuple #[.int .i64 (ap 5 a b), .int .i64 0]) ∧ w' = w := by
  have HR : Hid (_ = _) := ref_rem a b ha
  go_enter Try.func19, Try.ntmps19
  go_wp2_with (go_at_call 39; refine (quotient_any _ _ (by assumption) (by assumption) _).mono ?_; rintro e w' ⟨rfl, rfl⟩)
  go_ret2
  exact ⟨congrArg (fun n => Ending.returned (.tuple #[.int .i64 n, .int .i64 0])) HR.out, rfl⟩
theorem refApply6 (a b : Int) (_ha : In64 a) (_hb : In64 b) (w : World) :
    Calls Try.prog 19 #[.int .i64 6, .int .i64 a, .int .i64 b] w fun e w' => e = .returned (.tuple #[.int .i64 (ap 6 a b), .int .i64 0]) ∧ w' = w := by
  go_enter Try.func19, Try.ntmps19
  go_wp2_with (go_at_call 40; refine (refBits_and _ _ _).mono ?_; rintro e w' ⟨rfl, rfl⟩)
  go_ret2
  exact ⟨rfl, rfl⟩
theorem refApply7 (a b : Int) (_ha : In64 a) (_hb : In64 b) (w : World) :
    Calls Try.prog 19 #[.int .i64 7, .int .i64 a, .int .i64 b] w fun e w' => e = .returned (.tuple #[.int .i64 (ap 7 a b), .int .i64 0]) ∧ w' = w := by
  go_enter Try.func19, Try.ntmps19
  go_wp2_with (go_at_call 40; refine (refBits_or _ _ _).mono ?_; rintro e w' ⟨rfl, rfl⟩)
  go_ret2
  exact ⟨rfl, rfl⟩
theorem refApply8 (a b : Int) (_ha : In64 a) (_hb : In64 b) (w : World) :
    Calls Try.prog 19 #[.int .i64 8, .int .i64 a, .int .i64 b] w fun e w' => e = .returned (.tuple #[.int .i64 (ap 8 a b), .int .i64 0]) ∧ w' = w := by
  go_enter Try.func19, Try.ntmps19
  go_wp2_with (go_at_call 40; refine (refBits_xor _ _ _).mono ?_; rintro e w' ⟨rfl, rfl⟩)
  go_ret2
  exact ⟨rfl, rfl⟩
theorem refApply9 (a b : Int) (ha : In64 a) (_hb : In64 b) (w : World) :
    Calls Try.prog 19 #[.int .i64 9, .int .i64 a, .int .i64 b] w fun e w' => e = .returned (.tuple #[.int .i64 (ap 9 a b), .int .i64 0]) ∧ w' = w := by
  go_enter Try.func19, Try.ntmps19
  go_wp2_with (go_at_call 41; refine (shifted_shl _ _ (by assumption) _).mono ?_; rintro e w' ⟨rfl, rfl⟩)
  go_ret2
  exact ⟨rfl, rfl⟩
theorem refApply10 (a b : Int) (ha : In64 a) (_hb : In64 b) (w : World) :
    Calls Try.prog 19 #[.int .i64 10, .int .i64 a, .int .i64 b] w fun e w' => e = .returned (.tuple #[.int .i64 (ap 10 a b), .int .i64 0]) ∧ w' = w := by
  go_enter Try.func19, Try.ntmps19
  go_wp2_with (go_at_call 41; refine (shifted_shr _ _ (by assumption) _).mono ?_; rintro e w' ⟨rfl, rfl⟩)
  go_ret2
  exact ⟨rfl, rfl⟩
theorem refApply11 (a b : Int) (_ha : In64 a) (_hb : In64 b) (w : World) :
    Calls Try.prog 19 #[.int .i64 11, .int .i64 a, .int .i64 b] w fun e w' => e = .returned (.tuple #[.int .i64 (ap 11 a b), .int .i64 0]) ∧ w' = w := by
  rw [ap11']
  by_cases h : a < b
  · rw [if_pos h]
    go_enter Try.func19, Try.ntmps19
    go_wp2
    go_ret2
    exact ⟨rfl, rfl⟩
  · rw [if_neg h]
    go_enter Try.func19, Try.ntmps19
    go_wp2
    go_ret2
    exact ⟨rfl, rfl⟩
theorem refApply12 (a b : Int) (_ha : In64 a) (_hb : In64 b) (w : World) :
    Calls Try.prog 19 #[.int .i64 12, .int .i64 a, .int .i64 b] w fun e w' => e = .returned (.tuple #[.int .i64 (ap 12 a b), .int .i64 0]) ∧ w' = w := by
  rw [ap12']
  by_cases h : b < a
  · rw [if_pos h]
    go_enter Try.func19, Try.ntmps19
    go_wp2
    go_ret2
    exact ⟨rfl, rfl⟩
  · rw [if_neg h]
    go_enter Try.func19, Try.ntmps19
    go_wp2
    go_ret2
    exact ⟨rfl, rfl⟩
theorem refApply_bad (op a b : Int) (h : op < 1 ∨ 12 < op) (w : World) :
    Calls Try.prog 19 #[.int .i64 op, .int .i64 a, .int .i64 b] w fun e w' => e = .returned (.tuple #[.int .i64 0, .int .i64 10]) ∧ w' = w := by
  have k1 : (op == 1) = false := by simp; omega
  have k2 : (op == 2) = false := by simp; omega
  have k3 : (op == 3) = false := by simp; omega
  have k4 : (op == 4) = false := by simp; omega
  have k5 : (op == 5) = false := by simp; omega
  have k6 : (op == 6) = false := by simp; omega
  have k7 : (op == 7) = false := by simp; omega
  have k8 : (op == 8) = false := by simp; omega
  have k9 : (op == 9) = false := by simp; omega
  have k10 : (op == 10) = false := by simp; omega
  have k11 : (op == 11) = false := by simp; omega
  have k12 : (op == 12) = false := by simp; omega
  clear h
  go_enter Try.func19, Try.ntmps19
  go_wp2
  go_ret2
  exact ⟨rfl, rfl⟩
theorem refApply_any (op a b : Int) (ha : In64 a) (hb : In64 b) (w : World) :
    Calls Try.prog 19 #[.int .i64 op, .int .i64 a, .int .i64 b] w fun e w' => e = .returned (.tuple #[.int .i64 (ap op a b), .int .i64 (ae op)]) ∧ w' = w := by
  by_cases h : 1 ≤ op ∧ op ≤ 12
  · rw [show ae op = 0 from if_pos h]
    have h12 : op = 1 ∨ op = 2 ∨ op = 3 ∨ op = 4 ∨ op = 5 ∨ op = 6 ∨ op = 7 ∨ op = 8 ∨ op = 9 ∨ op = 10 ∨ op = 11 ∨ op = 12 := by omega
    rcases h12 with h | h | h | h | h | h | h | h | h | h | h | h <;> subst h
    · exact refApply1 a b ha hb w
    · exact refApply2 a b ha hb w
    · exact refApply3 a b ha hb w
    · exact refApply4 a b ha hb w
    · exact refApply5 a b ha hb w
    · exact refApply6 a b ha hb w
    · exact refApply7 a b ha hb w
    · exact refApply8 a b ha hb w
    · exact refApply9 a b ha hb w
    · exact refApply10 a b ha hb w
    · exact refApply11 a b ha hb w
    · exact refApply12 a b ha hb w
  · rw [show ae op = 10 from if_neg h, ap_bad op a b (by omega)]
    exact refApply_bad op a b (by omega) w
end Go.Proofs.Ythmoimilhbmagab
