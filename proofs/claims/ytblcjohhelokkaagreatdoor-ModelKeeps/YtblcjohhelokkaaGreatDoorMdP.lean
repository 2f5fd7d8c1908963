import Derived.Test.YtblcjohhelokkaaGreatDoorMdM
namespace Go.Proofs.YtblcjohhelokkaaGreatDoor
open Go.RowKit
/-- Is there such a code among the first? -/
def ac (l : List Ins) (c : Int) : Nat → Bool
  | 0 => false
  | k + 1 => ac l c k || ((l.getD k ins0).code == c)
theorem ac_no {l : List Ins} {c : Int} : ∀ n, ac l c n = false → ∀ p, p < n → ¬ (l.getD p ins0).code = c
  | 0, _, p, h => by omega
  | n + 1, h, p, hp => by
    have h : (ac l c n || ((l.getD n ins0).code == c)) = false := h
    rw [Bool.or_eq_false_iff] at h
    by_cases e : p = n
    · subst e; simpa using h.2
    · exact ac_no n h.1 p (by omega)
theorem ac_yes {l : List Ins} {c : Int} : ∀ n p, p < n → (l.getD p ins0).code = c → ac l c n = true
  | 0, _, h, _ => by omega
  | n + 1, p, h, e => by
    show (ac l c n || ((l.getD n ins0).code == c)) = true
    by_cases e2 : p = n
    · subst e2; rw [e]; simp
    · rw [ac_yes n p (by omega) e]; rfl
section
variable {l : List Ins} {os : List Int} {gs : List (Bool × Int)}
/-- Own objects hold what they held. -/
def Jo (os : List Int) (s : Rs) : Prop := ∀ i, s.st i = 2 → s.nm i = os.getD i 0
theorem Jo.rdo {s : Rs} (h : Jo os s) (x : Nat) : Jo os (s.rdo os gs x) := by
  unfold Rs.rdo
  split
  · intro i hi
    simp only at hi ⊢
    by_cases e : i = x
    · rw [if_pos e] at hi; cases hi
    · rw [if_neg e] at hi ⊢; exact h i hi
  · exact h
theorem Jo.wro {s : Rs} (h : Jo os s) (x : Nat) : Jo os (s.wro os x) := by
  unfold Rs.wro
  split
  · exact h
  · intro i hi
    simp only at hi ⊢
    by_cases e : i = x
    · rw [if_pos e]; rw [e]
    · rw [if_neg e] at hi ⊢; exact h i hi
theorem mstp_J (q : Ins) (s : Rs) (hq : ¬ q.code = 3) (h : Jo os s) : Jo os (mstp os gs q s) := by
  have hi : Jo os s.inc := h
  unfold mstp
  split
  · split
    · unfold mstpO
      split
      · exact hi.rdo _
      · split
        · exact hi.wro _
        · split
          · intro i hi2
            simp only at hi2 ⊢
            by_cases e : i = (s.sv q.oR q.oN).toNat
            · rw [if_pos e] at hi2; cases hi2
            · rw [if_neg e] at hi2 ⊢; exact h i hi2
          · exact hi
    · exact hi
  · split
    · exact hi
    · split
      · exact hi
      · split
        · split <;> exact hi
        · split
          · exact hi
          · split <;> exact hi
theorem gor_J (hl : ∀ p, ¬ (atI l p).code = 3) : ∀ (f c : Nat) (s : Rs), Jo os s → Jo os (gor l os gs f c s).1
  | 0, _, _, h => h
  | f + 1, c, s, h => by
    by_cases h0 : s.oc = 0
    · rw [gor_step f c h0]
      exact gor_J hl f (c + 1) _ (mstp_J _ s (hl _) h)
    · rw [gor_end (f + 1) c h0]; exact h
theorem lft_J {s : Rs} (h : Jo os s) (k : Nat) : lft os s k = os := by
  unfold lft
  apply List.ext_getElem (by simp)
  intro i h1 h2
  rw [List.getElem_map, List.getElem_range]
  split
  · rename_i e
    rw [h i e.2.2, List.getD_eq_getElem?_getD, List.getElem?_eq_getElem h2]; rfl
  · rw [List.getD_eq_getElem?_getD, List.getElem?_eq_getElem h2]; rfl
theorem atI_no {c : Int} (hc : ¬ c = 10) (hc0 : ¬ c = 0) (h : ac l c l.length = false) (p : Nat) : ¬ (atI l p).code = c := by
  unfold atI
  split
  · exact fun e => hc e.symm
  · by_cases hp : p < l.length
    · exact ac_no _ h p hp
    · rw [List.getD_eq_getElem?_getD, List.getElem?_eq_none (by omega)]
      exact fun e => hc0 e.symm
/-- Without a put nothing is changed. -/
theorem gor_noput (h : ac l 3 l.length = false) (f : Nat) (k : Nat) : lft os (gor l os gs f 0 rs0).1 k = os :=
  lft_J (gor_J (atI_no (by decide) (by decide) h) f 0 rs0 (fun i hi => by cases hi)) k
/-- A result comes of a Done. -/
theorem mstp_rs2 (q : Ins) (s : Rs) (h : s.rs = 0) : (mstp os gs q s).rs = 0 ∨ (¬ q.code ≤ 9 ∧ (mstp os gs q s).oc = 1 ∧ (mstp os gs q s).rs = s.sv q.xR q.xN) := by
  by_cases h9 : q.code ≤ 9
  · left
    have hr : ∀ x, (s.inc.rdo os gs x).rs = s.rs := fun x => by unfold Rs.rdo; split <;> rfl
    have hw : ∀ x, (s.inc.wro os x).rs = s.rs := fun x => by unfold Rs.wro; split <;> rfl
    unfold mstp
    split
    · split
      · unfold mstpO
        split
        · exact (hr _).trans h
        · split
          · exact (hw _).trans h
          · split
            · exact (hw _).trans h
            · split <;> exact h
      · exact h
    · split
      · exact h
      · split
        · exact h
        · split
          · split <;> exact h
          · split
            · exact h
            · split
              · exact h
              · omega
  · right
    have e : mstp os gs q s = { s.inc with oc := 1, rs := s.inc.sv q.xR q.xN } := by
      unfold mstp
      rw [if_neg (by omega), if_neg (by omega), if_neg (by omega), if_neg (by omega), if_neg (by omega), if_neg (by omega)]
    rw [e]
    exact ⟨h9, rfl, rfl⟩
theorem gor_done (hcan : ∀ p, p < l.length → (l.getD p ins0).can l.length = true) : ∀ (f c : Nat) (s : Rs), (s.rs = 0 ∨ (ac l 10 l.length = true ∧ s.oc = 1)) → ((gor l os gs f c s).1.rs = 0 ∨ (ac l 10 l.length = true ∧ (gor l os gs f c s).1.oc = 1))
  | 0, _, _, h => h
  | f + 1, c, s, h => by
    by_cases h0 : s.oc = 0
    · rw [gor_step f c h0]
      have hr : s.rs = 0 := h.resolve_right (fun e => by omega)
      refine gor_done hcan f (c + 1) _ ?_
      rcases mstp_rs2 (os := os) (gs := gs) (atI l s.pl.toNat) s hr with h1 | ⟨h1, h2, h3⟩
      · exact .inl h1
      · by_cases hp : s.pl.toNat = l.length
        · left
          rw [h3]
          have : atI l s.pl.toNat = doneI := if_pos hp
          rw [this]; rfl
        · have e : atI l s.pl.toNat = l.getD s.pl.toNat ins0 := if_neg hp
          by_cases hlt : s.pl.toNat < l.length
          · right
            rw [e] at h1
            have := can_code (hcan _ hlt)
            exact ⟨ac_yes _ _ hlt (by omega), h2⟩
          · rw [e, List.getD_eq_getElem?_getD, List.getElem?_eq_none (by omega)] at h1
            exact (h1 (by decide)).elim
    · rw [gor_end (f + 1) c h0]; exact h
end
end Go.Proofs.YtblcjohhelokkaaGreatDoor
