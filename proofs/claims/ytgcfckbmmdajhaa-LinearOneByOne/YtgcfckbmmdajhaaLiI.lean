import Derived.Test.YtgcfckbmmdajhaaLiH
namespace Go.Proofs.Ytgcfckbmmdajhaa
open Go.RowKit
theorem with_lt : ∀ {P : List Int} {k : Int} (Q : List Int), (∀ y ∈ P, y < k) → withL (P ++ Q) k = P ++ withL Q k
  | [], _, _, _ => rfl
  | y :: P, k, Q, h => by
    show withL (y :: (P ++ Q)) k = y :: (P ++ withL Q k)
    unfold withL
    rw [if_pos (h y (by simp)), with_lt Q (fun z hz => h z (by simp [hz]))]
    cases Q <;> rfl
theorem with_ge : ∀ {P : List Int} {k x : Int}, (∃ y ∈ P, k ≤ y) → withL (P ++ [x]) k = withL P k ++ [x]
  | [], _, _, h => by obtain ⟨y, hy, _⟩ := h; cases hy
  | y :: P, k, x, h => by
    show withL (y :: (P ++ [x])) k = withL (y :: P) k ++ [x]
    by_cases c : y < k
    · obtain ⟨z, hz, hk⟩ := h
      have hz' : z ∈ P := by
        rcases List.mem_cons.1 hz with e | e
        · omega
        · exact e
      have ih := with_ge (x := x) ⟨z, hz', hk⟩
      simp only [withL, if_pos c, ih, List.cons_append]
    · by_cases d : y = k
      · simp only [withL, if_neg c, if_pos d, List.cons_append]
      · simp only [withL, if_neg c, if_neg d, List.cons_append]
/-- The set with the number, so far: P has been looked at. -/
def WI (P : List Int) (k : Int) (done : Bool) (m : Nat) (L : List Int) : Prop :=
  m = L.length ∧ (done = false → (∀ y ∈ P, y < k) ∧ L = P) ∧ (done = true → (∃ y ∈ P, k ≤ y) ∧ L = withL P k)
end Go.Proofs.Ytgcfckbmmdajhaa
