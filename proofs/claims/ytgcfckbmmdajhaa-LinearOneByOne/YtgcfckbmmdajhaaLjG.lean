import Derived.Test.YtgcfckbmmdajhaaLjF
namespace Go.Proofs.Ytgcfckbmmdajhaa
open Go.RowKit
/-- A list of places is a line, as far as it goes, place by place. -/
def LnP (l : List Cl) (L : List Nat) : Prop := ∀ k, k < L.length → okN l (L.take k) (setK l L k) (L.getD k 0) = true
/-- What Line answers. -/
def LiP (l : List Cl) (L : List Nat) (wh : Bool) (w : World) (e : Ending) (w' : World) : Prop := ∃ b, e = .returned (.bool b) ∧ (b = true ↔ LnP l L ∧ (wh = true → compL l L = true)) ∧ Keeps (fun _ => False) w w'
theorem mem_take_next {L : List Nat} {j x : Nat} (h : j < L.length) : x ∈ L.take (j + 1) ↔ x ∈ L.take j ∨ x = L.getD j 0 := by
  rw [take_nextP h, List.mem_append]
  simp
theorem okN_split {l : List Cl} {L : List Nat} {S : List Int} {p : Nat} (h : okN l L S p = true) : p ∉ L ∧ (∀ a, a < l.length → ansD (l.getD a cl0) = true → (l.getD a cl0).to_ < (l.getD p cl0).from_ → a ∈ L) ∧ goesP (l.getD p cl0) (doesL S (l.getD p cl0)).1 (doesL S (l.getD p cl0)).2.1 = true := by
  unfold okN at h
  simp only [Bool.and_eq_true] at h
  exact ⟨of_decide_eq_true h.1, of_decide_eq_true h.2.1, h.2.2⟩
end Go.Proofs.Ytgcfckbmmdajhaa
