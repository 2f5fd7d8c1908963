import Derived.Test.YthmlppepgcjfgaaBdJ
namespace Go.Proofs.Ythmlppepgcjfgaa
open Go.RowKit Go.Deep
theorem wrB_at {t : Tv} {x : Int} : wrB t x = true ↔ ∃ i, i < t.wrs.length ∧ (t.wrs.getD i wo0).object = x := by
  unfold wrB
  rw [List.any_eq_true]
  constructor
  · rintro ⟨q, hq, e⟩
    obtain ⟨i, hi, e2⟩ := List.getElem_of_mem hq
    refine ⟨i, hi, ?_⟩
    rw [List.getD_eq_getElem?_getD, List.getElem?_eq_getElem hi]
    show (t.wrs[i]).object = x
    rw [e2]
    exact beq_iff_eq.1 e
  · rintro ⟨i, hi, e⟩
    refine ⟨t.wrs.getD i wo0, ?_, by rw [e]; simp⟩
    rw [List.getD_eq_getElem?_getD, List.getElem?_eq_getElem hi]
    exact List.getElem_mem hi
/-- The edges as the program gathers them. -/
def GaE (ts : List Tv) (e : Ed) : Prop := ∃ (t u : Nat) (x : Int), t < ts.length ∧ u < ts.length ∧ (ts.getD t tv0).out = 1 ∧ (ts.getD u tv0).out = 1 ∧ wrB (ts.getD u tv0) x = true ∧ ((wrB (ts.getD t tv0) x = true ∧ (ts.getD u tv0).end_ < (ts.getD t tv0).end_ ∧ e = ⟨(u : Int), (t : Int), 1, x⟩) ∨ (rdB (ts.getD t tv0) x = true ∧ (u : Int) ≠ (t : Int) ∧ (((ts.getD u tv0).end_ < (ts.getD t tv0).fnl ∧ e = ⟨(u : Int), (t : Int), 0, x⟩) ∨ (¬ (ts.getD u tv0).end_ < (ts.getD t tv0).fnl ∧ e = ⟨(t : Int), (u : Int), 2, x⟩))))
theorem gaE_iff {ts : List Tv} {e : Ed} : GaE ts e ↔ EdA ts e := by
  constructor
  · rintro ⟨t, u, x, ht, hu, ot, ou, hw, h⟩
    obtain ⟨i, hi, rfl⟩ := wrB_at.1 hw
    rcases h with ⟨h1, h2, h3⟩ | ⟨h1, h2, h3⟩
    · exact ⟨t, u, i, ht, hu, ⟨(fun q => by subst q; omega), ot, ou⟩, hi, .inl ⟨h1, h2, h3⟩⟩
    · refine ⟨t, u, i, ht, hu, ⟨(fun q => by subst q; exact h2 rfl), ot, ou⟩, hi, .inr ?_⟩
      rcases h3 with ⟨q1, q2⟩ | ⟨q1, q2⟩
      · exact .inl ⟨h1, q1, q2⟩
      · exact .inr ⟨h1, q1, q2⟩
  · rintro ⟨t, u, i, ht, hu, ⟨hne, ot, ou⟩, hi, h⟩
    refine ⟨t, u, _, ht, hu, ot, ou, wrB_at.2 ⟨i, hi, rfl⟩, ?_⟩
    rcases h with ⟨h1, h2, h3⟩ | ⟨h1, h2, h3⟩ | ⟨h1, h2, h3⟩
    · exact .inl ⟨h1, h2, h3⟩
    · exact .inr ⟨h1, by omega, .inl ⟨h2, h3⟩⟩
    · exact .inr ⟨h1, by omega, .inr ⟨h2, h3⟩⟩
/-- A list that stands in order, none twice, is sorted as edges are. -/
theorem srt_of {l : List Ed} (h : l.Pairwise (fun a b => ¬ LtE b a)) (hn : l.Nodup) : SrtE l := by
  unfold SrtE
  refine List.Pairwise.imp (fun {a b} q => ?_) (List.Pairwise.and h hn)
  exact Classical.byContradiction fun c => q.2 (LtE.tri c q.1)
end Go.Proofs.Ythmlppepgcjfgaa
