import Derived.Test.YthmoimilhbmagabEndsFacts
import Derived.Test.YthmoimilhbmagabDo
import Derived.Test.YthmoimilhbmagabSatMul
import Derived.Test.YthmoimilhbmagabRing0
import Derived.Deep.CutBlock
namespace Go.Proofs.Ythmoimilhbmagab
open Go.ChangeShapes Go.WideShapes Go.ChangeAt Go.RowKit
theorem sum_neg {a b : Int} (h1 : -9223372036854775808 ≤ a + b) (h2 : a + b ≤ 9223372036854775807) : ap 1 a b = a + b := by rw [ap1]; exact wrap_id ⟨h1, h2⟩
set_option maxHeartbeats 8000000 in
set_option maxRecDepth 100000 in
theorem ends_walk (a b k : Int) (ha : In64 a) (hb : In64 b) (hkk : In64 k) (w : World) :
    Calls Try.prog 5 #[.int .i64 a, .int .i64 b, .int .i64 k] w fun e w' => e = .returned (.bool true) ∧ Below w.heap.size w w' := by
  have f1 : (clamp (a * b) != clamp (b * a)) = false := neF (by rw [Int.mul_comm])
  have hk := Kept.start w (.cells #[.bool false] 34)
  have hc := calc_cell w
  have hm : Hid (((decide (a ≤ k)) = true ∧ decide (clamp (k + b) < clamp (a + b)) = false) ∨ (decide (a ≤ k)) = false) := by
    by_cases g : a ≤ k
    · left; have := sum_mono (b := b) g; simp; omega
    · right; simp; omega
  have hz : Hid ((b == 0) = true ∨ ((b == 0) = false ∧ Hid (b ≠ 0))) := by
    by_cases g : b = 0
    · exact .inl (eqT g)
    · exact .inr ⟨eqF g, g⟩
  go_enter Try.func5, Try.ntmps5
  go_upto_block 0 with (first | (go_at_call 15; refine (satAdd_any _ _ (by assumption) (by assumption) _).mono ?_; rintro e w' ⟨rfl, rfl⟩) | (go_at_call 14; refine (do_any _ _ _ _ (by decide) hk).mono ?_; rintro e w1 ⟨rfl, hk1⟩; replace hk := hk1; clear hk1; replace hc := calc_kept hk))
  go_cut [6] from 21 to 49 (fun s wx => s = .bool false ∧ wx = w1)
  case first =>
    by_cases h : 9223372036854775807 < a + b
    · obtain ⟨s1, s2⟩ := sum_up ha hb h
      simp at s1
      obtain ⟨⟨s1, s3⟩, s4⟩ := s1
      go_wp2
      go_meet
      exact ⟨rfl, rfl⟩
    · by_cases h2 : a + b < -9223372036854775808
      · obtain ⟨_, s1, s2⟩ := sum_down ha hb h2
        simp at s1
        obtain ⟨⟨s1, s3⟩, s4⟩ := s1
        go_wp2
        go_meet
        exact ⟨rfl, rfl⟩
      · have e := sum_neg (show -9223372036854775808 ≤ a + b by omega) (by omega)
        obtain ⟨_, _, s3⟩ := sum_in (show -9223372036854775808 ≤ a + b by omega) (show a + b ≤ 9223372036854775807 by omega)
        have E : Hid (_ = _) := e
        clear e
        by_cases p1 : 0 ≤ a
        · by_cases p2 : 0 ≤ b
          · have p3 : 0 ≤ ap 1 a b := by rw [E.out]; omega
            go_wp2
            go_meet
            exact ⟨rfl, rfl⟩
          · go_wp2
            go_meet
            exact ⟨rfl, rfl⟩
        · by_cases p2 : 0 ≤ b
          · go_wp2
            go_meet
            exact ⟨rfl, rfl⟩
          · have p3 : ap 1 a b < 0 := by rw [E.out]; omega
            go_wp2
            go_meet
            exact ⟨rfl, rfl⟩
  case rest =>
    obtain ⟨rfl, rfl⟩ := hcut
    rcases hm.out with ⟨m1, m2⟩ | m1
    all_goals
      rcases hz.out with z | ⟨z, z1⟩
      · have z2 : (clamp (a * b) == ap 3 a b) = true := by rw [show b = 0 by simpa using z]; exact prod_zero a
        go_wp2_with (first | (go_at_call 15; refine (satAdd_any _ _ (by assumption) (by assumption) _).mono ?_; rintro e w' ⟨rfl, rfl⟩) | (go_at_call 16; refine (satMul_any _ _ (by assumption) (by assumption) _).mono ?_; rintro e w' ⟨rfl, rfl⟩) | (go_at_call 14; refine (do_any _ _ _ _ (by decide) hk).mono ?_; rintro e w1 ⟨rfl, hk1⟩; replace hk := hk1; clear hk1; replace hc := calc_kept hk) | (go_at_call 17; refine (fixed_any hk).mono ?_; rintro e w1 ⟨rfl, hk1⟩; replace hk := hk1; clear hk1; replace hc := calc_kept hk))
        go_ret
        exact ⟨rfl, calc_below hk⟩
      · rcases prod_ways a b ha z1.out with ⟨p1, p2, p3, p4 | ⟨p4, p5⟩⟩ | ⟨p1 | ⟨p1, p2⟩, ⟨p3, p4⟩ | ⟨p3, p4⟩⟩ | ⟨p1, p2, p3, p4, p5, p6⟩
        all_goals
          go_wp2_with (first | (go_at_call 15; refine (satAdd_any _ _ (by assumption) (by assumption) _).mono ?_; rintro e w' ⟨rfl, rfl⟩) | (go_at_call 16; refine (satMul_any _ _ (by assumption) (by assumption) _).mono ?_; rintro e w' ⟨rfl, rfl⟩) | (go_at_call 14; refine (do_any _ _ _ _ (by decide) hk).mono ?_; rintro e w1 ⟨rfl, hk1⟩; replace hk := hk1; clear hk1; replace hc := calc_kept hk) | (go_at_call 17; refine (fixed_any hk).mono ?_; rintro e w1 ⟨rfl, hk1⟩; replace hk := hk1; clear hk1; replace hc := calc_kept hk))
          go_ret
          exact ⟨rfl, calc_below hk⟩
end Go.Proofs.Ythmoimilhbmagab
