import Derived.Test.YthmoimilhbmagabSat
namespace Go.Proofs.Ythmoimilhbmagab
open Go.ChangeShapes Go.WideShapes Go.ChangeAt Go.RowKit

theorem refSatAdd_any (a b : Int) (ha : In64 a) (hb : In64 b) (w : World) :
    Calls Try.prog 20 #[.int .i64 a, .int .i64 b] w fun e w' => e = .returned (.int .i64 (clamp (a + b))) ∧ w' = w := by
  have HH : Hid (_ = _) := ref_high a b ha hb
  have HL : Hid (_ = _) := ref_low a b
  obtain ⟨h1, h2⟩ := ha
  obtain ⟨h3, h4⟩ := hb
  go_enter Try.func20, Try.ntmps20
  go_wp2
  · go_ret
    refine ⟨ret64 (clamp_hi ?_), rfl⟩
    have h := ‹(2147483648 : Int) ≤ _›
    rw [HH.out] at h
    omega
  · go_ret
    refine ⟨ret64 (clamp_lo ?_), rfl⟩
    have h := ‹_ < (-2147483648 : Int)›
    rw [HH.out] at h
    omega
  · go_ret
    have g1 := ‹_ < (2147483648 : Int)›
    have g2 := ‹(-2147483648 : Int) ≤ _›
    rw [HH.out] at g1 g2
    refine ⟨ret64 (clamp_in ?_ (by omega) (by omega)), rfl⟩
    rw [HH.out, HL.out]
    exact (wrap_id (by unfold In64; omega)).trans (by omega)
end Go.Proofs.Ythmoimilhbmagab
