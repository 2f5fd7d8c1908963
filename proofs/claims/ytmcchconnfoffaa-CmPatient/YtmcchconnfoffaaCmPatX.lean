import Derived.Test.YtmcchconnfoffaaCmPatW
namespace Go.Proofs.Ytmcchconnfoffaa
open Go.RowKit
theorem patientWalk (w : World) (ki : Int) (_ : I64 ki) (pa : Int) (_ : I64 pa) (c : Cf) (hc : c.ok) : Calls Try.prog 6 #[.int .i64 ki, .int .i64 pa, cfv c] w fun e w' => e = .returned (.bool true) ∧ Below w.heap.size w w' := by
  obtain ⟨kk, hk8, ek⟩ := and7 ki
  obtain ⟨K, hK, hkk⟩ : ∃ K : Nat, K < 5 ∧ ((4 < kk ∧ K = 1) ∨ (kk ≤ 4 ∧ K = kk)) := by
    by_cases h : 4 < kk
    · exact ⟨1, by omega, .inl ⟨h, rfl⟩⟩
    · exact ⟨kk, by omega, .inr ⟨by omega, rfl⟩⟩
  obtain ⟨p, hp, he⟩ : ∃ p, Pat p ∧ (pa < 1 ∧ p = 7 ∨ (¬ pa < 1 ∧ 4096 < pa) ∧ p = 7 ∨ (¬ pa < 1 ∧ ¬ 4096 < pa) ∧ p = pa) := by
    by_cases h : pa < 1
    · exact ⟨7, ⟨by omega, by omega⟩, .inl ⟨h, rfl⟩⟩
    · by_cases h2 : 4096 < pa
      · exact ⟨7, ⟨by omega, by omega⟩, .inr (.inl ⟨⟨h, h2⟩, rfl⟩)⟩
      · exact ⟨pa, ⟨by omega, by omega⟩, .inr (.inr ⟨⟨h, h2⟩, rfl⟩)⟩
  exact patientWalk0 ek hK hkk hp he hc w
end Go.Proofs.Ytmcchconnfoffaa
