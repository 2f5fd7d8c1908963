import Derived.Test.YtgcfckbmmdajhaaLiA
namespace Go.Proofs.Ytgcfckbmmdajhaa
open Go.RowKit
/-! Which calls may be, and the order of their points: without memory. -/
/-- The document's condition on one call. -/
def mayD (c : Cl) : Bool :=
  !(decide (c.kind < 1) || decide (6 < c.kind) || decide (c.from_ < 0)) && !((c.point != -1) && decide (c.point ≤ c.from_)) && !((c.to_ != -1) && ((c.point == -1) || decide (c.to_ ≤ c.point)))
theorem may_eq (c : Cl) : mayD c = mayP c := by
  unfold mayD mayP
  have b1 : (c.point != -1) = !decide (c.point = -1) := rfl
  have b2 : (c.point == -1) = decide (c.point = -1) := rfl
  have b3 : (c.to_ != -1) = !decide (c.to_ = -1) := rfl
  have b4 : (c.to_ == -1) = decide (c.to_ = -1) := rfl
  have b5 : decide (c.from_ < c.point) = !decide (c.point ≤ c.from_) := by rw [← decide_not]; congr 1; exact propext (by omega)
  have b6 : decide (c.point < c.to_) = !decide (c.to_ ≤ c.point) := by rw [← decide_not]; congr 1; exact propext (by omega)
  rw [b1, b2, b3, b4, b5, b6]
  by_cases h0 : c.kind < 1 ∨ 6 < c.kind ∨ c.from_ < 0
  · rw [if_pos h0]
    have : (decide (c.kind < 1) || decide (6 < c.kind) || decide (c.from_ < 0)) = true := by
      rcases h0 with h | h | h <;> simp [h]
    rw [this]
    rfl
  · rw [if_neg h0]
    have h1 : ¬ c.kind < 1 := fun h => h0 (.inl h)
    have h2 : ¬ 6 < c.kind := fun h => h0 (.inr (.inl h))
    have h3 : ¬ c.from_ < 0 := fun h => h0 (.inr (.inr h))
    rw [decide_eq_false h1, decide_eq_false h2, decide_eq_false h3]
    by_cases h4 : c.point = -1
    · rw [if_pos h4, decide_eq_true h4]
      cases decide (c.to_ = -1) <;> cases decide (c.point ≤ c.from_) <;> cases decide (c.to_ ≤ c.point) <;> rfl
    · rw [if_neg h4, decide_eq_false h4]
      cases decide (c.to_ = -1) <;> cases decide (c.point ≤ c.from_) <;> cases decide (c.to_ ≤ c.point) <;> rfl
/-- Two lists that rise by a number of their places and have the same places are one. -/
theorem sp_ext (f : Nat → Int) : ∀ (L M : List Nat), L.Pairwise (fun i j => f i < f j) → M.Pairwise (fun i j => f i < f j) → (∀ i, i ∈ L ↔ i ∈ M) → L = M
  | [], [], _, _, _ => rfl
  | [], b :: M, _, _, h => by have := (h b).2 (by simp); cases this
  | a :: L, [], _, _, h => by have := (h a).1 (by simp); cases this
  | a :: L, b :: M, h1, h2, h => by
    have h1' := List.pairwise_cons.1 h1
    have h2' := List.pairwise_cons.1 h2
    have e : a = b := by
      rcases List.mem_cons.1 ((h a).1 (by simp)) with e | e
      · exact e
      · rcases List.mem_cons.1 ((h b).2 (by simp)) with e' | e'
        · exact e'.symm
        · have := h2'.1 a e
          have := h1'.1 b e'
          omega
    subst e
    rw [sp_ext f L M h1'.2 h2'.2 (fun i => ⟨fun hi => ?_, fun hi => ?_⟩)]
    · rcases List.mem_cons.1 ((h i).1 (List.mem_cons_of_mem _ hi)) with e | e
      · subst e
        have := h1'.1 i hi
        omega
      · exact e
    · rcases List.mem_cons.1 ((h i).2 (List.mem_cons_of_mem _ hi)) with e | e
      · subst e
        have := h2'.1 i hi
        omega
      · exact e
def ptOf (l : List Cl) (i : Nat) : Int := (l.getD i cl0).point
/-- A place is laid in from behind. -/
def insP (f : Nat → Int) : List Nat → Nat → List Nat
  | [], i => [i]
  | a :: L, i => if f i < f a then i :: a :: L else a :: insP f L i
/-- The places of the calls with a point among the first k. -/
def byP (l : List Cl) : Nat → List Nat
  | 0 => []
  | k + 1 => if ptOf l k = -1 then byP l k else insP (ptOf l) (byP l k) k
theorem mem_insP (f : Nat → Int) : ∀ (L : List Nat) (i x : Nat), x ∈ insP f L i ↔ x = i ∨ x ∈ L
  | [], i, x => by simp [insP]
  | a :: L, i, x => by
    unfold insP
    split
    · rw [List.mem_cons]
    · rw [List.mem_cons, mem_insP f L i x, List.mem_cons]
      constructor
      · rintro (h | h | h) <;> simp [h]
      · rintro (h | h | h) <;> simp [h]
theorem rise_insP (f : Nat → Int) : ∀ {L : List Nat} {i : Nat}, L.Pairwise (fun i j => f i < f j) → (∀ a ∈ L, f a ≠ f i) → (insP f L i).Pairwise (fun i j => f i < f j)
  | [], i, _, _ => by simp [insP]
  | a :: L, i, h, hn => by
    have h' := List.pairwise_cons.1 h
    have ha := hn a (by simp)
    unfold insP
    split
    · rename_i c
      refine List.pairwise_cons.2 ⟨fun x hx => ?_, h⟩
      rcases List.mem_cons.1 hx with rfl | hx
      · exact c
      · have := h'.1 x hx
        omega
    · rename_i c
      refine List.pairwise_cons.2 ⟨fun x hx => ?_, rise_insP f h'.2 (fun b hb => hn b (by simp [hb]))⟩
      rcases (mem_insP f L i x).1 hx with rfl | hx
      · omega
      · exact h'.1 x hx
theorem mem_byP (l : List Cl) : ∀ k i, i ∈ byP l k ↔ i < k ∧ ptOf l i ≠ -1
  | 0, i => by simp [byP]
  | k + 1, i => by
    unfold byP
    split
    · rename_i c
      rw [mem_byP l k i]
      constructor
      · rintro ⟨h1, h2⟩
        exact ⟨by omega, h2⟩
      · rintro ⟨h1, h2⟩
        by_cases e : i = k
        · subst e
          exact absurd c h2
        · exact ⟨by omega, h2⟩
    · rename_i c
      rw [mem_insP, mem_byP l k i]
      constructor
      · rintro (rfl | ⟨h1, h2⟩)
        · exact ⟨by omega, c⟩
        · exact ⟨by omega, h2⟩
      · rintro ⟨h1, h2⟩
        by_cases e : i = k
        · exact .inl e
        · exact .inr ⟨by omega, h2⟩
/-- No two calls have one point. -/
def Apt (l : List Cl) (k : Nat) : Prop := ∀ i j, i < j → j < k → ptOf l j ≠ -1 → ptOf l i ≠ ptOf l j
theorem rise_byP {l : List Cl} : ∀ {k : Nat}, Apt l k → (byP l k).Pairwise (fun i j => ptOf l i < ptOf l j)
  | 0, _ => List.Pairwise.nil
  | k + 1, h => by
    have ih := rise_byP (l := l) (k := k) (fun i j h1 h2 h3 => h i j h1 (by omega) h3)
    unfold byP
    split
    · exact ih
    · rename_i c
      refine rise_insP _ ih (fun a ha => ?_)
      have := (mem_byP l k a).1 ha
      exact h a k this.1 (by omega) c
/-- Places in the order of their points: they are the document's. -/
theorem places_eq {l : List Cl} {L : List Nat} {k : Nat} (ha : Apt l k) (hs : L.Pairwise (fun i j => ptOf l i < ptOf l j)) (hm : ∀ i, i ∈ L ↔ i < k ∧ ptOf l i ≠ -1) : L = byP l k := sp_ext (ptOf l) L (byP l k) hs (rise_byP ha) (fun i => (hm i).trans (mem_byP l k i).symm)
end Go.Proofs.Ytgcfckbmmdajhaa
