import Derived.Test.YtgcfckbmmdajhaaLiQ
namespace Go.Proofs.Ytgcfckbmmdajhaa
open Go.RowKit
/-! The search for a line: without memory. -/
theorem nodup_le : ∀ (N : Nat) (L : List Nat), L.Nodup → (∀ x ∈ L, x < N) → L.length ≤ N
  | 0, L, _, h => by
    cases L with
    | nil => exact Nat.le_refl _
    | cons a L => exact absurd (h a (by simp)) (by omega)
  | N + 1, L, hn, h => by
    by_cases c : N ∈ L
    · have h1 := nodup_le N (L.erase N) (hn.erase N) (fun x hx => by
        have := (hn.mem_erase_iff).1 hx
        have h2 := h x this.2
        have h3 := this.1
        omega)
      rw [List.length_erase_of_mem c] at h1
      omega
    · have := nodup_le N L hn (fun x hx => by
        have h2 := h x hx
        have h3 : x ≠ N := fun e => c (e ▸ hx)
        omega)
      omega
/-- May the place p follow the line L, the set being S? -/
def okN (l : List Cl) (L : List Nat) (S : List Int) (p : Nat) : Bool :=
  decide (p ∉ L) && (decide (∀ a, a < l.length → ansD (l.getD a cl0) = true → (l.getD a cl0).to_ < (l.getD p cl0).from_ → a ∈ L) && goesP (l.getD p cl0) (doesL S (l.getD p cl0)).1 (doesL S (l.getD p cl0)).2.1)
def nxS (l : List Cl) (S : List Int) (p : Nat) : List Int := (doesL S (l.getD p cl0)).2.2
def srch (l : List Cl) : Nat → List Nat → List Int → Option (List Nat)
  | 0, L, _ => if compL l L then some L else none
  | d + 1, L, S => if compL l L then some L else (List.range l.length).findSome? (fun p => if okN l L S p then srch l d (L ++ [p]) (nxS l S p) else none)
/-- What a place leads to. -/
def gN (l : List Cl) : Nat → List Nat → List Int → Nat → Option (List Nat)
  | 0, _, _, _ => none
  | d + 1, L, S, p => if okN l L S p then srch l d (L ++ [p]) (nxS l S p) else none
theorem gN_succ (l : List Cl) (d : Nat) (L : List Nat) (S : List Int) (p : Nat) : gN l (d + 1) L S p = if okN l L S p then srch l d (L ++ [p]) (nxS l S p) else none := rfl
theorem srch_yes {l : List Cl} {L : List Nat} {S : List Int} (d : Nat) (h : compL l L = true) : srch l d L S = some L := by
  cases d <;> (unfold srch; rw [if_pos h])
theorem fs_none {g : Nat → Option (List Nat)} {N : Nat} (h : ∀ p, p < N → g p = none) : (List.range N).findSome? g = none := by
  rw [List.findSome?_eq_none_iff]
  intro p hp
  exact h p (List.mem_range.1 hp)
theorem srch_no {l : List Cl} {L : List Nat} {S : List Int} {d : Nat} (h : compL l L = false) (hg : ∀ p, p < l.length → gN l d L S p = none) : srch l d L S = none := by
  cases d with
  | zero => unfold srch; rw [if_neg (by rw [h]; decide)]
  | succ d =>
    unfold srch
    rw [if_neg (by rw [h]; decide)]
    exact fs_none hg
theorem fs_hit {g : Nat → Option (List Nat)} {r : List Nat} : ∀ {N k : Nat}, k < N → (∀ p, p < k → g p = none) → g k = some r → (List.range N).findSome? g = some r
  | N + 1, k, hk, h1, h2 => by
    rw [List.range_succ, List.findSome?_append]
    by_cases e : k = N
    · subst e
      rw [fs_none h1]
      simp [h2]
    · rw [fs_hit (N := N) (by omega) h1 h2]
      rfl
theorem srch_hit {l : List Cl} {L : List Nat} {S : List Int} {d k : Nat} {r : List Nat} (h : compL l L = false) (hk : k < l.length) (hg : ∀ p, p < k → gN l d L S p = none) (hr : gN l d L S k = some r) : srch l d L S = some r := by
  cases d with
  | zero => cases hr
  | succ d =>
    unfold srch
    rw [if_neg (by rw [h]; decide)]
    exact fs_hit hk hg hr
/-- A line goes on with the places qs, behind L, the set being S. -/
def GoL (l : List Cl) : List Nat → List Int → List Nat → Prop
  | _, _, [] => True
  | L, S, p :: qs => p < l.length ∧ okN l L S p = true ∧ GoL l (L ++ [p]) (nxS l S p) qs
/-- a stands ahead of b in a dictionary, or is it. -/
def lexL : List Nat → List Nat → Prop
  | [], _ => True
  | _ :: _, [] => False
  | x :: a, y :: b => x < y ∨ (x = y ∧ lexL a b)
theorem fs_some {g : Nat → Option (List Nat)} {r : List Nat} : ∀ {N : Nat}, (List.range N).findSome? g = some r → ∃ k, k < N ∧ (∀ p, p < k → g p = none) ∧ g k = some r
  | 0, h => by cases h
  | N + 1, h => by
    rw [List.range_succ, List.findSome?_append] at h
    cases e : (List.range N).findSome? g with
    | some r' =>
      rw [e] at h
      obtain ⟨k, h1, h2, h3⟩ := fs_some e
      injection h with h
      subst h
      exact ⟨k, by omega, h2, h3⟩
    | none =>
      rw [e] at h
      refine ⟨N, by omega, fun p hp => ?_, by simpa using h⟩
      exact (List.findSome?_eq_none_iff.1 e) p (List.mem_range.2 hp)
/-- What is found is a line, and the first of a dictionary. -/
theorem srch_sound (l : List Cl) : ∀ (d : Nat) (L : List Nat) (S : List Int) (r : List Nat), srch l d L S = some r → ∃ qs, r = L ++ qs ∧ GoL l L S qs ∧ compL l r = true
  | d, L, S, r, h => by
    cases hc : compL l L with
    | true =>
      rw [srch_yes d hc] at h
      injection h with h
      subst h
      exact ⟨[], by simp, trivial, hc⟩
    | false =>
      cases d with
      | zero => rw [srch_no hc (fun _ _ => rfl)] at h; cases h
      | succ d =>
        unfold srch at h
        rw [if_neg (by rw [hc]; decide)] at h
        obtain ⟨k, hk, -, h3⟩ := fs_some h
        cases ho : okN l L S k with
        | false => rw [ho] at h3; cases h3
        | true =>
          rw [ho] at h3
          obtain ⟨qs, e, hg, hcr⟩ := srch_sound l d (L ++ [k]) (nxS l S k) r h3
          exact ⟨k :: qs, by rw [e, List.append_assoc]; rfl, ⟨hk, ho, hg⟩, hcr⟩
theorem goL_nodup {l : List Cl} : ∀ {qs L : List Nat} {S : List Int}, L.Nodup → (∀ x ∈ L, x < l.length) → GoL l L S qs → (L ++ qs).Nodup ∧ ∀ x ∈ L ++ qs, x < l.length
  | [], L, S, hn, hb, _ => by rw [List.append_nil]; exact ⟨hn, hb⟩
  | p :: qs, L, S, hn, hb, h => by
    obtain ⟨h1, h2, h3⟩ := h
    have hp : p ∉ L := by
      unfold okN at h2
      simp only [Bool.and_eq_true] at h2
      exact of_decide_eq_true h2.1
    have e : L ++ p :: qs = (L ++ [p]) ++ qs := by rw [List.append_assoc]; rfl
    rw [e]
    refine goL_nodup ?_ (fun x hx => ?_) h3
    · rw [List.nodup_append]
      exact ⟨hn, by simp, fun a ha b hb' => by simp at hb'; subst hb'; exact fun e => hp (e ▸ ha)⟩
    · rcases List.mem_append.1 hx with hx | hx
      · exact hb x hx
      · simp at hx; subst hx; exact h1
/-- If there is a line, it is found, and what is found is not behind it. -/
theorem srch_first {l : List Cl} : ∀ (d : Nat) (qs L : List Nat) (S : List Int), L.Nodup → (∀ x ∈ L, x < l.length) → l.length ≤ d + L.length → GoL l L S qs → compL l (L ++ qs) = true → ∃ rs, srch l d L S = some (L ++ rs) ∧ lexL rs qs
  | d, qs, L, S, hn, hb, hd, hg, hc => by
    cases hcl : compL l L with
    | true => exact ⟨[], by rw [srch_yes d hcl, List.append_nil], trivial⟩
    | false =>
      cases qs with
      | nil => rw [List.append_nil, hcl] at hc; cases hc
      | cons p qs =>
        have hnd := goL_nodup hn hb hg
        have hlen := nodup_le _ _ hnd.1 hnd.2
        rw [List.length_append, List.length_cons] at hlen
        cases d with
        | zero => omega
        | succ d =>
          obtain ⟨h1, h2, h3⟩ := hg
          have hp : p ∉ L := by
            unfold okN at h2
            simp only [Bool.and_eq_true] at h2
            exact of_decide_eq_true h2.1
          have e : L ++ p :: qs = (L ++ [p]) ++ qs := by rw [List.append_assoc]; rfl
          rw [e] at hc
          obtain ⟨rs, hs, hl⟩ := srch_first d qs (L ++ [p]) (nxS l S p) (by
            rw [List.nodup_append]
            exact ⟨hn, by simp, fun a ha b hb' => by simp at hb'; subst hb'; exact fun e => hp (e ▸ ha)⟩) (fun x hx => by
            rcases List.mem_append.1 hx with hx | hx
            · exact hb x hx
            · simp at hx; subst hx; exact h1) (by rw [List.length_append]; simp; omega) h3 hc
          have hgp : gN l (d + 1) L S p = some ((L ++ [p]) ++ rs) := by
            rw [gN_succ, if_pos h2]
            exact hs
          -- the first place that leads somewhere
          have hex : ∃ k, k ≤ p ∧ (∀ q, q < k → gN l (d + 1) L S q = none) ∧ (gN l (d + 1) L S k).isSome := by
            have : ∀ m, (∃ k, k < m ∧ (∀ q, q < k → gN l (d + 1) L S q = none) ∧ (gN l (d + 1) L S k).isSome) ∨ ∀ q, q < m → gN l (d + 1) L S q = none := by
              intro m
              induction m with
              | zero => exact .inr (fun q hq => absurd hq (by omega))
              | succ m ih =>
                rcases ih with ⟨k, a1, a2, a3⟩ | ih
                · exact .inl ⟨k, by omega, a2, a3⟩
                · cases e : gN l (d + 1) L S m with
                  | some r => exact .inl ⟨m, by omega, ih, by rw [e]; rfl⟩
                  | none => exact .inr (fun q hq => by
                      by_cases e' : q = m
                      · rw [e']; exact e
                      · exact ih q (by omega))
            rcases this (p + 1) with ⟨k, a1, a2, a3⟩ | h
            · exact ⟨k, by omega, a2, a3⟩
            · rw [h p (by omega)] at hgp
              cases hgp
          obtain ⟨k, a1, a2, a3⟩ := hex
          obtain ⟨r, hr⟩ := Option.isSome_iff_exists.1 a3
          have hs' := srch_hit hcl (by omega) a2 hr
          by_cases ek : k = p
          · subst ek
            rw [hgp] at hr
            injection hr with hr
            rw [hs', ← hr]
            refine ⟨k :: rs, ?_, .inr ⟨rfl, hl⟩⟩
            rw [List.append_assoc]
            rfl
          · rw [hs']
            have hr' := hr
            rw [gN_succ] at hr'
            split at hr'
            · obtain ⟨qs', e', -, -⟩ := srch_sound l d _ _ _ hr'
              refine ⟨k :: qs', by rw [e', List.append_assoc]; rfl, .inl (by omega)⟩
            · cases hr'
end Go.Proofs.Ytgcfckbmmdajhaa
