import Derived.Test.YthmoimilhbmagabRefMul
import Derived.Test.YthmoimilhbmagabRefShift
namespace Go.Proofs.Ythmoimilhbmagab
open Go.ChangeShapes Go.WideShapes Go.ChangeAt Go.RowKit

theorem tdiv_same {a b : Int} (s : (a < 0) = (b < 0)) : a.tdiv b = ((a.natAbs / b.natAbs : Nat) : Int) := by
  by_cases g : a < 0
  · have g2 : b < 0 := by rw [← s]; exact g
    obtain ⟨x, hx⟩ := Int.eq_ofNat_of_zero_le (show 0 ≤ -a by omega)
    obtain ⟨y, hy⟩ := Int.eq_ofNat_of_zero_le (show 0 ≤ -b by omega)
    have ea : a = -(x : Int) := by omega
    have eb : b = -(y : Int) := by omega
    rw [ea, eb, Int.neg_tdiv, Int.tdiv_neg, Int.neg_neg, Int.natAbs_neg, Int.natAbs_neg, Int.natAbs_natCast, Int.natAbs_natCast]
    rfl
  · have g2 : ¬ b < 0 := by rw [← s]; exact g
    obtain ⟨x, hx⟩ := Int.eq_ofNat_of_zero_le (show 0 ≤ a by omega)
    obtain ⟨y, hy⟩ := Int.eq_ofNat_of_zero_le (show 0 ≤ b by omega)
    rw [hx, hy, Int.natAbs_natCast, Int.natAbs_natCast]
    rfl
theorem tdiv_diff {a b : Int} (s : (a < 0) ≠ (b < 0)) : a.tdiv b = -((a.natAbs / b.natAbs : Nat) : Int) := by
  by_cases g : a < 0
  · have g2 : ¬ b < 0 := fun k => s (by simp [g, k])
    obtain ⟨x, hx⟩ := Int.eq_ofNat_of_zero_le (show 0 ≤ -a by omega)
    obtain ⟨y, hy⟩ := Int.eq_ofNat_of_zero_le (show 0 ≤ b by omega)
    have ea : a = -(x : Int) := by omega
    rw [ea, hy, Int.neg_tdiv, Int.natAbs_neg, Int.natAbs_natCast, Int.natAbs_natCast]
    rfl
  · have g2 : b < 0 := by
      by_cases k : b < 0
      · exact k
      · exact absurd (by simp [g, k]) s
    obtain ⟨x, hx⟩ := Int.eq_ofNat_of_zero_le (show 0 ≤ a by omega)
    obtain ⟨y, hy⟩ := Int.eq_ofNat_of_zero_le (show 0 ≤ -b by omega)
    have eb : b = -(y : Int) := by omega
    rw [hx, eb, Int.tdiv_neg, Int.natAbs_neg, Int.natAbs_natCast, Int.natAbs_natCast]
    rfl
theorem quo_end (N D q r : Nat) (h : q * D + r = N) (hr : r < D) : q = N / D := by
  rw [← h, Nat.mul_comm, Nat.mul_add_div (by omega), Nat.div_eq_of_lt hr]; rfl
theorem quo_less (Y D q r : Nat) (h : q * D + r = Y) (hr : r < D) : q ≤ Y := by
  have : q * 1 ≤ q * D := Nat.mul_le_mul_left q (by omega)
  omega
theorem quo_big (X D q r : Nat) (h : q * D + r = X / 2) : (q * 2 + 1) * D + (r * 2 + X % 2) = X + D := by
  have e : (q * 2 + 1) * D = q * D * 2 + D := by rw [Nat.add_mul, Nat.one_mul, Nat.mul_right_comm]
  rw [e]; omega
theorem quo_small (X D q r : Nat) (h : q * D + r = X / 2) : (q * 2) * D + (r * 2 + X % 2) = X := by
  have e : (q * 2) * D = q * D * 2 := by rw [Nat.mul_right_comm]
  rw [e]; omega

theorem div_lt64' (x j : Nat) (h : x < 18446744073709551616) : x / 2 ^ j < 18446744073709551616 := Nat.lt_of_le_of_lt (Nat.div_le_self _ _) h
theorem mag_nat (a : Int) : mag a = ((a.natAbs : Nat) : Int) := rfl
theorem quo_same {a b : Int} (hb0 : b ≠ 0) (s : (a < 0) = (b < 0)) (q : Nat) (h : q = a.natAbs / b.natAbs) : wrap64 ((q : Nat) : Int) = ap 4 a b := by
  rw [ap4, if_neg hb0, tdiv_same s, h]
theorem quo_diff {a b : Int} (hb0 : b ≠ 0) (s : (a < 0) ≠ (b < 0)) (q : Nat) (h : q = a.natAbs / b.natAbs) : wrap64 (-((q : Nat) : Int)) = ap 4 a b := by
  rw [ap4, if_neg hb0, tdiv_diff s, h]

set_option maxHeartbeats 2000000 in
theorem quotient_some (a b : Int) (ha : In64 a) (hb : In64 b) (hb0 : Hid (b ≠ 0)) (w : World) :
    Calls Try.prog 39 #[.int .i64 a, .int .i64 b] w fun e w' => e = .returned (.int .i64 (ap 4 a b)) ∧ w' = w := by
  have z : (b == 0) = false := eqF hb0.out
  have ma := mag_nat a
  have mb := mag_nat b
  have la : a.natAbs < 18446744073709551616 := by unfold In64 at ha; omega
  have lb : b.natAbs ≤ 9223372036854775808 := by unfold In64 at hb; omega
  have lb0 : 0 < b.natAbs := by have := hb0.out; omega
  have HS : Hid (∀ q : Nat, q = a.natAbs / b.natAbs → ((decide (a < 0) == decide (b < 0)) = true ∧ wrap64 ((q : Nat) : Int) = ap 4 a b) ∨ ((decide (a < 0) == decide (b < 0)) = false ∧ wrap64 (-((q : Nat) : Int)) = ap 4 a b)) := by
    intro q hq
    by_cases s : (a < 0) = (b < 0)
    · exact .inl ⟨by simp [s], quo_same hb0.out s q hq⟩
    · exact .inr ⟨by rw [beq_eq_false_iff_ne]; intro k; exact s (by simpa using k), quo_diff hb0.out s q hq⟩
  generalize a.natAbs = N at *
  generalize b.natAbs = D at *
  have MA : Hid (_ = _) := ma
  have MB : Hid (_ = _) := mb
  clear ma mb
  go_enter Try.func39, Try.ntmps39
  go_wp2_with (go_at_call 43; refine (size_any _ (by assumption) _).mono ?_; rintro e w' ⟨rfl, rfl⟩)
  rw [MA.out, MB.out]
  go_loop [7, 8, 9] (fun x y i => ∃ (k : Int) (q r : Nat), -1 ≤ k ∧ k ≤ 63 ∧ i = .int .i64 k ∧ x = .int .u64 ((q : Nat) : Int) ∧ y = .int .u64 ((r : Nat) : Int) ∧ r < D ∧ q * D + r = N / 2 ^ (k + 1).toNat) (fun _ _ i => (intOf i + 1).toNat)
  case atStart => exact ⟨63, 0, 0, by omega, by omega, rfl, rfl, rfl, lb0, by rw [show ((63 : Int) + 1).toNat = 64 from rfl, Nat.div_eq_of_lt (show N < 2 ^ 64 from la)]; simp⟩
  case round =>
    obtain ⟨k, q, r, k1, k2, rfl, rfl, rfl, hr, he⟩ := hrel
    by_cases hk : 0 ≤ k
    · obtain ⟨m, rfl⟩ := Int.eq_ofNat_of_zero_le hk
      have e1 : ((m : Int) + 1).toNat = m + 1 := by omega
      rw [e1, Nat.pow_succ, ← Nat.div_div_eq_div_mul] at he
      have hN : (N : Int) / 2 ^ m = ((N / 2 ^ m : Nat) : Int) := by rw [Int.natCast_ediv, Int.natCast_pow]; rfl
      have lX := div_lt64' N m la
      have hq := quo_less _ _ _ _ he hr
      have HB : Hid (_ = _) := quo_big _ _ _ _ he
      have HM : Hid (_ = _) := quo_small _ _ _ _ he
      clear he e1
      have HX : Hid (∀ t : Nat, t = m → N / 2 ^ t = N / 2 ^ m) := fun t e => by rw [e]
      generalize N / 2 ^ m = X at *
      have e2 : Hid (((m : Int) - 1 + 1).toNat = m) := by show _ = _; omega
      by_cases ht : (D : Int) ≤ (r : Int) * 2 + (X : Int) % 2
      · go_wp2
        go_round
        case rel => exact ⟨(m : Int) - 1, q * 2 + 1, r * 2 + X % 2 - D, by omega, by omega, by go_num, valU (by omega), valU (by omega), by omega, by rw [HX.out _ e2.out]; have := HB.out; omega⟩
        case measure => simp [intOf]; try omega
      · go_wp2
        go_round
        case rel => exact ⟨(m : Int) - 1, q * 2, r * 2 + X % 2, by omega, by omega, by go_num, valU (by omega), valU (by omega), by omega, by rw [HX.out _ e2.out]; exact HM.out⟩
        case measure => simp [intOf]; try omega
    · have hk' : k = -1 := by omega
      subst hk'
      have hq := quo_end N D q r (by rw [he]; show N / 1 = N; exact Nat.div_one N) hr
      have lq : q < 18446744073709551616 := by rw [hq]; exact Nat.lt_of_le_of_lt (Nat.div_le_self _ _) la
      rcases HS.out q hq with ⟨t1, t2⟩ | ⟨t1, t2⟩
      all_goals
        have T2 : Hid (_ = _) := t2
        clear t2 hq he
      · go_wp2_with (go_at_call 44; refine (signed_plus _ ⟨by omega, by omega⟩ _).mono ?_; rintro e w' ⟨rfl, rfl⟩)
        go_ret
        exact ⟨ret64 T2.out, rfl⟩
      · go_wp2_with (go_at_call 44; refine (signed_minus _ ⟨by omega, by omega⟩ _).mono ?_; rintro e w' ⟨rfl, rfl⟩)
        go_ret
        exact ⟨ret64 T2.out, rfl⟩
theorem quotient_any (a b : Int) (ha : In64 a) (hb : In64 b) (w : World) :
    Calls Try.prog 39 #[.int .i64 a, .int .i64 b] w fun e w' => e = .returned (.int .i64 (ap 4 a b)) ∧ w' = w := by
  by_cases h : b = 0
  · rw [ap4, if_pos h]
    have hb : (b == 0) = true := eqT h
    clear h
    go_enter Try.func39, Try.ntmps39
    go_wp2
    go_ret
    exact ⟨rfl, rfl⟩
  · exact quotient_some a b ha hb h w
end Go.Proofs.Ythmoimilhbmagab
