import Derived.Test.YthmoimilhbmagaaRing
namespace Go.Proofs.Ythmoimilhbmagaa
open Go.ChangeShapes Go.WideShapes Go.ChangeAt Go.RowKit

theorem div_zero (a : Int) : ap 4 a 0 = 0 := by rw [ap4, if_pos rfl]
theorem rem_zero (a : Int) : ap 5 a 0 = a := by rw [ap5, if_pos rfl]
set_option maxHeartbeats 1000000 in
theorem divides_zero (a : Int) (ha : In64 a) (w : World) :
    Calls Try.prog 8 #[.int .i64 a, .int .i64 0] w fun e w' => e = .returned (.bool true) ∧ Below w.heap.size w w' := by
  have f1 := neF (div_back a 0 ha)
  have f2 := eqT (div_zero a)
  have f3 := eqT (rem_zero a)
  have hk := Kept.start w (.cells #[.bool false] 34)
  have hc := calc_cell w
  clear ha
  go_enter Try.func8, Try.ntmps8
  go_wp2_with (first | (go_at_call 11; refine (do_any _ _ _ _ (by decide) hk).mono ?_; rintro e w1 ⟨rfl, hk1⟩; replace hk := hk1; clear hk1; replace hc := calc_kept hk) | (go_at_call 13; refine (fixed_any hk).mono ?_; rintro e w1 ⟨rfl, hk1⟩; replace hk := hk1; clear hk1; replace hc := calc_kept hk))
  go_ret
  exact ⟨rfl, calc_below hk⟩
theorem rem_cases (a b : Int) (hb : b ≠ 0) : (0 < ap 5 a b ∧ 0 < a) ∨ (ap 5 a b < 0 ∧ a < 0) ∨ (ap 5 a b ≤ 0 ∧ 0 ≤ ap 5 a b) := by
  have r1 := rem_pos a b hb
  have r2 := rem_neg a b hb
  by_cases g : 0 ≤ a
  · have := r1 g
    by_cases g2 : a ≤ 0
    · have := r2 g2; omega
    · omega
  · have := r2 (by omega); omega
set_option maxHeartbeats 2000000 in
theorem divides_pos (a b : Int) (ha : In64 a) (hb : In64 b) (h : 0 < b) (w : World) :
    Calls Try.prog 8 #[.int .i64 a, .int .i64 b] w fun e w' => e = .returned (.bool true) ∧ Below w.heap.size w w' := by
  have hb0 : (b == 0) = false := eqF (by omega)
  have f1 := neF (div_back a b ha)
  have r3 := rem_small a b (by omega)
  have hb2 := hb.2
  have f4 : ap 5 a b < b := by omega
  have f5 : -b < ap 5 a b := by omega
  have hr := rem_cases a b (by omega)
  clear r3 ha hb
  have hk := Kept.start w (.cells #[.bool false] 34)
  have hc := calc_cell w
  rcases hr with ⟨g1, g2⟩ | ⟨g1, g2⟩ | ⟨g1, g2⟩
  all_goals
    go_enter Try.func8, Try.ntmps8
    go_wp2_with (first | (go_at_call 11; refine (do_any _ _ _ _ (by decide) hk).mono ?_; rintro e w1 ⟨rfl, hk1⟩; replace hk := hk1; clear hk1; replace hc := calc_kept hk) | (go_at_call 13; refine (fixed_any hk).mono ?_; rintro e w1 ⟨rfl, hk1⟩; replace hk := hk1; clear hk1; replace hc := calc_kept hk))
    go_ret
    exact ⟨rfl, calc_below hk⟩
set_option maxHeartbeats 2000000 in
theorem divides_neg (a b : Int) (ha : In64 a) (h : b < 0) (hl : -9223372036854775808 < b) (w : World) :
    Calls Try.prog 8 #[.int .i64 a, .int .i64 b] w fun e w' => e = .returned (.bool true) ∧ Below w.heap.size w w' := by
  have hb0 : (b == 0) = false := eqF (by omega)
  have hbl : (b == -9223372036854775808) = false := eqF (by omega)
  have f1 := neF (div_back a b ha)
  have r3 := rem_small a b (by omega)
  have f4 : b < ap 5 a b := by omega
  have f5 : ap 5 a b < -b := by omega
  have hr := rem_cases a b (by omega)
  clear r3 ha
  have hk := Kept.start w (.cells #[.bool false] 34)
  have hc := calc_cell w
  rcases hr with ⟨g1, g2⟩ | ⟨g1, g2⟩ | ⟨g1, g2⟩
  all_goals
    go_enter Try.func8, Try.ntmps8
    go_wp2_with (first | (go_at_call 11; refine (do_any _ _ _ _ (by decide) hk).mono ?_; rintro e w1 ⟨rfl, hk1⟩; replace hk := hk1; clear hk1; replace hc := calc_kept hk) | (go_at_call 13; refine (fixed_any hk).mono ?_; rintro e w1 ⟨rfl, hk1⟩; replace hk := hk1; clear hk1; replace hc := calc_kept hk))
    go_ret
    exact ⟨rfl, calc_below hk⟩
set_option maxHeartbeats 2000000 in
theorem divides_least (a : Int) (ha : In64 a) (w : World) :
    Calls Try.prog 8 #[.int .i64 a, .int .i64 (-9223372036854775808)] w fun e w' => e = .returned (.bool true) ∧ Below w.heap.size w w' := by
  have f1 := neF (div_back a (-9223372036854775808) ha)
  have r3 := rem_small a (-9223372036854775808) (by omega)
  have f4 : -9223372036854775808 < ap 5 a (-9223372036854775808) := by omega
  have hr := rem_cases a (-9223372036854775808) (by omega)
  clear r3 ha
  have hk := Kept.start w (.cells #[.bool false] 34)
  have hc := calc_cell w
  rcases hr with ⟨g1, g2⟩ | ⟨g1, g2⟩ | ⟨g1, g2⟩
  all_goals
    go_enter Try.func8, Try.ntmps8
    go_wp2_with (first | (go_at_call 11; refine (do_any _ _ _ _ (by decide) hk).mono ?_; rintro e w1 ⟨rfl, hk1⟩; replace hk := hk1; clear hk1; replace hc := calc_kept hk) | (go_at_call 13; refine (fixed_any hk).mono ?_; rintro e w1 ⟨rfl, hk1⟩; replace hk := hk1; clear hk1; replace hc := calc_kept hk))
    go_ret
    exact ⟨rfl, calc_below hk⟩
theorem divides_walk (a b : Int) (ha : In64 a) (hb : In64 b) (w : World) :
    Calls Try.prog 8 #[.int .i64 a, .int .i64 b] w fun e w' => e = .returned (.bool true) ∧ Below w.heap.size w w' := by
  by_cases h0 : b = 0
  · subst h0; exact divides_zero a ha w
  · by_cases h1 : 0 < b
    · exact divides_pos a b ha hb h1 w
    · by_cases h2 : b = -9223372036854775808
      · subst h2; exact divides_least a ha w
      · exact divides_neg a b ha (by omega) (by have := hb.1; omega) w
end Go.Proofs.Ythmoimilhbmagaa
