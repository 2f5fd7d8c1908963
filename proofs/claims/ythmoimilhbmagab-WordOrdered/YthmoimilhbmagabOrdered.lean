import Derived.Test.YthmoimilhbmagabDo
import Derived.Test.YthmoimilhbmagabIs
import Derived.Test.YthmoimilhbmagabRing0
namespace Go.Proofs.Ythmoimilhbmagab
open Go.ChangeShapes Go.WideShapes Go.ChangeAt Go.RowKit

theorem hl1 (a b : Int) : hl 1 a b = (a == b) := rfl
theorem hl2 (a b : Int) : hl 2 a b = (a != b) := rfl
theorem hl3 (a b : Int) : hl 3 a b = decide (a < b) := rfl
theorem hl4 (a b : Int) : hl 4 a b = decide (a ≤ b) := rfl
theorem hl5 (a b : Int) : hl 5 a b = decide (b < a) := rfl
theorem hl6 (a b : Int) : hl 6 a b = decide (b ≤ a) := rfl
theorem next_gt (a : Int) (h : In64 a) (g : a ≠ 9223372036854775807) : hl 3 a (ap 1 a 1) = true := by
  unfold In64 at h
  rw [hl3, ap1, wrap_id (by unfold In64; omega)]; simp; omega

/-- The end of the walk: the greatest number has no next. -/
theorem end_ok (a : Int) (h : In64 a) : (a == 9223372036854775807) = true ∨ ((a == 9223372036854775807) = false ∧ hl 3 a (ap 1 a 1) = true) := by
  by_cases g : a = 9223372036854775807
  · exact .inl (eqT g)
  · exact .inr ⟨eqF g, next_gt a h g⟩

set_option maxHeartbeats 2000000 in
set_option maxRecDepth 100000 in
theorem ordered_lt (a b k : Int) (ha : In64 a) (h : a < b) (w : World) :
    Calls Try.prog 4 #[.int .i64 a, .int .i64 b, .int .i64 k] w fun e w' => e = .returned (.bool true) ∧ Below w.heap.size w w' := by
  have e1 : hl 3 a b = true := by rw [hl3]; simp; omega
  have e2 : hl 1 a b = false := by rw [hl1]; simp; omega
  have e3 : hl 5 a b = false := by rw [hl5]; simp; omega
  have e4 : hl 3 b a = false := by rw [hl3]; simp; omega
  have e5 : hl 2 a b = true := by rw [hl2]; simp; omega
  have e6 : hl 4 a b = true := by rw [hl4]; simp; omega
  have e7 : hl 6 a b = false := by rw [hl6]; simp; omega
  have e8 : ap 11 a b = a := by rw [ap11, if_neg (by omega)]
  have e9 : ap 12 a b = b := by rw [ap12, if_pos h]
  have f1 : (a == b) = false := by simp; omega
  have z1 : hl 3 (-1) 0 = true := by decide +kernel
  have z2 : hl 3 0 1 = true := by decide +kernel
  have g1 : he 1 = 0 := by decide +kernel
  have g2 : he 2 = 0 := by decide +kernel
  have g3 : he 3 = 0 := by decide +kernel
  have g4 : he 4 = 0 := by decide +kernel
  have g5 : he 5 = 0 := by decide +kernel
  have g6 : he 6 = 0 := by decide +kernel
  have hk := Kept.start w (.cells #[.bool false] 34)
  have hc := calc_cell w
  have hbk : hl 3 b k = false ∨ (hl 3 b k = true ∧ hl 3 a k = true) := by
    rw [hl3, hl3]; by_cases g : b < k
    · right; simp; omega
    · left; simp; omega
  have hend := end_ok a ha
  clear ha
  rcases hbk with c1 | ⟨c1, c2⟩
  all_goals
    rcases hend with d1 | ⟨d1, d2⟩
    all_goals
      go_enter Try.func4, Try.ntmps4
      go_wp2_with (first | (go_at_call 13; refine (is_any _ _ _ _ (by assumption) _).mono ?_; rintro e w1 ⟨rfl, rfl⟩) | (go_at_call 14; refine (do_any _ _ _ _ (by decide) hk).mono ?_; rintro e w1 ⟨rfl, hk1⟩; replace hk := hk1; clear hk1; replace hc := calc_kept hk))
      go_ret
      exact ⟨rfl, calc_below hk⟩
set_option maxHeartbeats 2000000 in
set_option maxRecDepth 100000 in
theorem ordered_gt (a b k : Int) (ha : In64 a) (h : b < a) (w : World) :
    Calls Try.prog 4 #[.int .i64 a, .int .i64 b, .int .i64 k] w fun e w' => e = .returned (.bool true) ∧ Below w.heap.size w w' := by
  have e1 : hl 3 a b = false := by rw [hl3]; simp; omega
  have e2 : hl 1 a b = false := by rw [hl1]; simp; omega
  have e3 : hl 5 a b = true := by rw [hl5]; simp; omega
  have e4 : hl 3 b a = true := by rw [hl3]; simp; omega
  have e5 : hl 2 a b = true := by rw [hl2]; simp; omega
  have e6 : hl 4 a b = false := by rw [hl4]; simp; omega
  have e7 : hl 6 a b = true := by rw [hl6]; simp; omega
  have e8 : ap 11 a b = b := by rw [ap11, if_pos h]
  have e9 : ap 12 a b = a := by rw [ap12, if_neg (by omega)]
  have e0 : hl 5 b a = false := by rw [hl5]; simp; omega
  have f2 : (b == a) = false := by simp; omega
  have f1 : (a == b) = false := by simp; omega
  have z1 : hl 3 (-1) 0 = true := by decide +kernel
  have z2 : hl 3 0 1 = true := by decide +kernel
  have g1 : he 1 = 0 := by decide +kernel
  have g2 : he 2 = 0 := by decide +kernel
  have g3 : he 3 = 0 := by decide +kernel
  have g4 : he 4 = 0 := by decide +kernel
  have g5 : he 5 = 0 := by decide +kernel
  have g6 : he 6 = 0 := by decide +kernel
  have hk := Kept.start w (.cells #[.bool false] 34)
  have hc := calc_cell w
  have hend := end_ok a ha
  clear ha
  rcases hend with d1 | ⟨d1, d2⟩
  all_goals
    go_enter Try.func4, Try.ntmps4
    go_wp2_with (first | (go_at_call 13; refine (is_any _ _ _ _ (by assumption) _).mono ?_; rintro e w1 ⟨rfl, rfl⟩) | (go_at_call 14; refine (do_any _ _ _ _ (by decide) hk).mono ?_; rintro e w1 ⟨rfl, hk1⟩; replace hk := hk1; clear hk1; replace hc := calc_kept hk))
    go_ret
    exact ⟨rfl, calc_below hk⟩
set_option maxHeartbeats 2000000 in
set_option maxRecDepth 100000 in
theorem ordered_eq (a k : Int) (ha : In64 a) (w : World) :
    Calls Try.prog 4 #[.int .i64 a, .int .i64 a, .int .i64 k] w fun e w' => e = .returned (.bool true) ∧ Below w.heap.size w w' := by
  have e1 : hl 3 a a = false := by rw [hl3]; simp
  have e2 : hl 1 a a = true := by rw [hl1]; simp
  have e3 : hl 5 a a = false := by rw [hl5]; simp
  have e5 : hl 2 a a = false := by rw [hl2]; simp
  have e6 : hl 4 a a = true := by rw [hl4]; simp
  have e7 : hl 6 a a = true := by rw [hl6]; simp
  have e8 : ap 11 a a = a := by rw [ap11, if_neg (by omega)]
  have e9 : ap 12 a a = a := by rw [ap12, if_neg (by omega)]
  have z1 : hl 3 (-1) 0 = true := by decide +kernel
  have z2 : hl 3 0 1 = true := by decide +kernel
  have g1 : he 1 = 0 := by decide +kernel
  have g2 : he 2 = 0 := by decide +kernel
  have g3 : he 3 = 0 := by decide +kernel
  have g4 : he 4 = 0 := by decide +kernel
  have g5 : he 5 = 0 := by decide +kernel
  have g6 : he 6 = 0 := by decide +kernel
  have hk := Kept.start w (.cells #[.bool false] 34)
  have hc := calc_cell w
  have hend := end_ok a ha
  clear ha
  rcases hend with d1 | ⟨d1, d2⟩
  all_goals
    go_enter Try.func4, Try.ntmps4
    go_wp2_with (first | (go_at_call 13; refine (is_any _ _ _ _ (by assumption) _).mono ?_; rintro e w1 ⟨rfl, rfl⟩) | (go_at_call 14; refine (do_any _ _ _ _ (by decide) hk).mono ?_; rintro e w1 ⟨rfl, hk1⟩; replace hk := hk1; clear hk1; replace hc := calc_kept hk))
    go_ret
    exact ⟨rfl, calc_below hk⟩
theorem ordered_walk (a b k : Int) (ha : In64 a) (_hb : In64 b) (_hk : In64 k) (w : World) :
    Calls Try.prog 4 #[.int .i64 a, .int .i64 b, .int .i64 k] w fun e w' => e = .returned (.bool true) ∧ Below w.heap.size w w' := by
  by_cases h : a < b
  · exact ordered_lt a b k ha h w
  · by_cases h2 : b < a
    · exact ordered_gt a b k ha h2 w
    · have : b = a := by omega
      subst this; exact ordered_eq b k ha w
end Go.Proofs.Ythmoimilhbmagab
