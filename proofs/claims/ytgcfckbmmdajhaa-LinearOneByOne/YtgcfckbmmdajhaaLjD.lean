import Derived.Test.YtgcfckbmmdajhaaLjC
namespace Go.Proofs.Ytgcfckbmmdajhaa
open Go.RowKit
theorem rise_does {S : List Int} {c : Cl} (h : Rise S) : Rise (doesL S c).2.2 := by
  unfold doesL
  split
  · exact rise_with h
  split
  · exact rise_wout h
  split
  · exact h
  split
  · cases S with
    | nil => exact h
    | cons x T => exact rise_wout h
  split
  · exact h
  split
  · exact h
  · exact rise_with (rise_wout h)
theorem rise_setK (l : List Cl) (L : List Nat) : ∀ k, Rise (setK l L k)
  | 0 => List.Pairwise.nil
  | k + 1 => rise_does (rise_setK l L k)
def KeB (l : List Cl) (w w' : World) (v : Value) (ec : Int) : Prop := (ec = 0 ∧ MayL l ∧ ∃ sa sc, v = .slice sa (keyL l).length sc ∧ KL w' sa (keyL l) ∧ ∀ b off, sa = some ⟨b, off, none⟩ → w.heap.size ≤ b) ∨ (ec = 171 ∧ ¬ MayL l ∧ v = .slice none 0 0)
end Go.Proofs.Ytgcfckbmmdajhaa
