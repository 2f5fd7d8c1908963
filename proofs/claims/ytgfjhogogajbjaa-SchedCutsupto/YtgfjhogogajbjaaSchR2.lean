import Derived.Test.YtgfjhogogajbjaaSchR
namespace Go.Proofs.Ytgfjhogogajbjaa
open Go.RowKit

theorem nmf_cases (n : Nat) (z : Nat → Int) (i : Nat) : nmf n z i = -1 ∨ ∃ u : Nat, u < n ∧ nmf n z i = (u : Int) := by
  have h1 := nmz_lo n (z i)
  have h2 := nmz_hi n (z i)
  by_cases e : nmz n (z i) = -1
  · exact .inl e
  · exact .inr ⟨(nmz n (z i)).toNat, by omega, by show nmz n (z i) = _; omega⟩
theorem far_ex (n : Nat) (z : Nat → Int) : ∀ i, ∃ L b, Far (nmf n z) n i L b
  | 0 => ⟨0, _, Far.zero _ _⟩
  | i + 1 => by
    obtain ⟨L, b, h⟩ := far_ex n z i
    rcases nmf_cases n z i with e | ⟨u, hu, e⟩
    · exact ⟨L, b, h.none (by omega) (fun j h1 h2 => by rw [show j = i by omega]; exact e)⟩
    · exact ⟨_, _, h.some hu (by omega) (fun j h1 h2 => by rw [show j = i by omega]; exact e)⟩
theorem gap_ex {n : Nat} (hn : 0 < n) (m : Nat) (z : Nat → Int) : ∃ R, Gap (nmf n z) m n R := by
  obtain ⟨L, b, h⟩ := far_ex n z m
  have : ∀ q, q ≤ n → ∃ L', Fin_ (nmf n z) n m b q L' := by
    intro q
    induction q with
    | zero => exact fun _ => ⟨L, h.fin⟩
    | succ q ih =>
      intro hq
      obtain ⟨L', h'⟩ := ih (by omega)
      exact ⟨_, h'.next h (by omega)⟩
  obtain ⟨L', h'⟩ := this n (Nat.le_refl _)
  exact ⟨L', h'.gap hn⟩

end Go.Proofs.Ytgfjhogogajbjaa
