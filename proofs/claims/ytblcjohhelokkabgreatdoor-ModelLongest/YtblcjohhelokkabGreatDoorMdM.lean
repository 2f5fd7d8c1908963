import Derived.Test.YtblcjohhelokkabGreatDoorMdJ
namespace Go.Proofs.YtblcjohhelokkabGreatDoor
open Go.RowKit
section
variable {l : List Ins} {os : List Int} {gs : List (Bool × Int)}
theorem gor_end (f c : Nat) {s : Rs} (h : ¬ s.oc = 0) : gor l os gs f c s = (s, c) := by
  cases f with
  | zero => rfl
  | succ f => exact if_neg h
theorem gor_step (f c : Nat) {s : Rs} (h : s.oc = 0) : gor l os gs (f + 1) c s = gor l os gs f (c + 1) (mstp os gs (atI l s.pl.toNat) s) := if_pos h
theorem gor_count : ∀ (f c : Nat) (s : Rs), c ≤ (gor l os gs f c s).2 ∧ (gor l os gs f c s).2 ≤ c + f ∧ ((gor l os gs f c s).1.oc = 0 → (gor l os gs f c s).2 = c + f) ∧ (s.oc = 0 → ¬ (gor l os gs f c s).1.oc = 0 → c + 1 ≤ (gor l os gs f c s).2)
  | 0, c, s => ⟨Nat.le_refl _, Nat.le_refl _, fun _ => rfl, fun h h2 => (h2 h).elim⟩
  | f + 1, c, s => by
    by_cases h : s.oc = 0
    · rw [gor_step f c h]
      have := gor_count f (c + 1) (mstp os gs (atI l s.pl.toNat) s)
      exact ⟨by omega, by omega, fun h => by have := this.2.2.1 h; omega, fun _ _ => this.1⟩
    · rw [gor_end (f + 1) c h]
      exact ⟨Nat.le_refl _, Nat.le_add_right _ _, fun h2 => (h h2).elim, fun h2 => (h h2).elim⟩
theorem gor_mono : ∀ (f c : Nat) (s : Rs), ¬ (gor l os gs f c s).1.oc = 0 → ∀ f', (gor l os gs f c s).2 ≤ c + f' → gor l os gs f' c s = gor l os gs f c s
  | 0, c, s, h, f', _ => gor_end f' c h
  | f + 1, c, s, h, f', hf => by
    by_cases h0 : s.oc = 0
    · rw [gor_step f c h0] at h hf ⊢
      have hc := (gor_count (l := l) (os := os) (gs := gs) f (c + 1) (mstp os gs (atI l s.pl.toNat) s)).1
      obtain ⟨f'', rfl⟩ : ∃ f'', f' = f'' + 1 := ⟨f' - 1, by omega⟩
      rw [gor_step f'' c h0]
      exact gor_mono f (c + 1) _ h f'' (by omega)
    · rw [gor_end (f + 1) c h0, gor_end f' c h0]
theorem gor_below : ∀ (f c : Nat) (s : Rs), s.oc = 0 → ¬ (gor l os gs f c s).1.oc = 0 → ∀ n, c + n + 1 = (gor l os gs f c s).2 → (gor l os gs n c s).1.oc = 0 ∧ (gor l os gs n c s).2 = c + n
  | 0, _, _, h0, h, _, _ => (h h0).elim
  | f + 1, c, s, h0, h, n, hn => by
    cases n with
    | zero => exact ⟨h0, rfl⟩
    | succ n =>
      rw [gor_step f c h0] at h hn
      rw [gor_step n c h0]
      by_cases h1 : (mstp os gs (atI l s.pl.toNat) s).oc = 0
      · have := gor_below f (c + 1) _ h1 h n (by omega)
        exact ⟨this.1, by omega⟩
      · rw [gor_end f (c + 1) h1] at hn
        have hn : c + (n + 1) + 1 = c + 1 := hn
        omega
/-- A result comes of a commit alone. -/
theorem mstp_rs (q : Ins) (s : Rs) (h : s.rs = 0) : (mstp os gs q s).oc = 1 ∨ (mstp os gs q s).rs = 0 := by
  have hr : ∀ x, (s.inc.rdo os gs x).rs = s.rs := fun x => by unfold Rs.rdo; split <;> rfl
  have hw : ∀ x, (s.inc.wro os x).rs = s.rs := fun x => by unfold Rs.wro; split <;> rfl
  unfold mstp
  split
  · split
    · right
      unfold mstpO
      split
      · exact (hr _).trans h
      · split
        · exact (hw _).trans h
        · split
          · exact (hw _).trans h
          · split <;> exact h
    · exact .inr h
  · split
    · exact .inr h
    · split
      · exact .inr h
      · split
        · split <;> exact .inr h
        · split
          · exact .inr h
          · split
            · exact .inr h
            · exact .inl rfl
theorem gor_rs : ∀ (f c : Nat) (s : Rs), (s.oc = 1 ∨ s.rs = 0) → ((gor l os gs f c s).1.oc = 1 ∨ (gor l os gs f c s).1.rs = 0)
  | 0, _, _, h => h
  | f + 1, c, s, h => by
    by_cases h0 : s.oc = 0
    · rw [gor_step f c h0]
      exact gor_rs f (c + 1) _ (mstp_rs _ s (h.resolve_left (by omega)))
    · rw [gor_end (f + 1) c h0]; exact h
end
end Go.Proofs.YtblcjohhelokkabGreatDoor
