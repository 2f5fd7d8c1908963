import Derived.Test.YtanmpioplckgbaaDoorLgN
namespace Go.Proofs.YtanmpioplckgbaaDoor
/-- A walk of k steps from p to q; all places but the last are below n. -/
def Wk (n : Nat) (nx : Nat → List Nat) : Nat → Nat → Nat → Prop
  | 0, p, q => p = q
  | k + 1, p, q => p < n ∧ ∃ r, r ∈ nx p ∧ Wk n nx k r q
/-- The longest walk from a place goes through h places below n. -/
inductive Ht (n : Nat) (nx : Nat → List Nat) : Nat → Nat → Prop
  | fin : Ht n nx n 0
  | step (p m : Nat) (g : Nat → Nat) (hp : p < n) (hs : ∀ q, q ∈ nx p → Ht n nx q (g q)) (hl : ∀ q, q ∈ nx p → g q ≤ m) (hm : m = 0 ∨ ∃ q, q ∈ nx p ∧ g q = m) : Ht n nx p (m + 1)
section
variable {n : Nat} {nx : Nat → List Nat}
theorem Ht.no {p h : Nat} (H : Ht n nx p h) : ∀ k q, h ≤ k → q < n → ¬ Wk n nx k p q := by
  induction H with
  | fin =>
    intro k q _ hq hw
    cases k with
    | zero => have hw : n = q := hw; omega
    | succ k => have := hw.1; omega
  | step p m g hp hs hl hm ih =>
    intro k q hk hq hw
    cases k with
    | zero => omega
    | succ k =>
      obtain ⟨_, r, hr, hw⟩ := hw
      exact ih r hr k q (by have := hl r hr; omega) hq hw
theorem Ht.yes {p h : Nat} (H : Ht n nx p h) : ∀ m, h = m + 1 → ∃ q, q < n ∧ Wk n nx m p q := by
  induction H with
  | fin => intro m e; omega
  | step p m g hp hs hl hm ih =>
    intro m' e
    obtain rfl : m = m' := by omega
    rcases hm with rfl | ⟨q, hq, e⟩
    · exact ⟨p, hp, rfl⟩
    · cases m with
      | zero => exact ⟨p, hp, rfl⟩
      | succ m'' =>
        obtain ⟨r, hr, hw⟩ := ih q hq m'' e
        exact ⟨r, hr, hp, q, hq, hw⟩
theorem Ht.uniq {p h h' : Nat} (H : Ht n nx p h) (H' : Ht n nx p h') : h = h' := by
  rcases Nat.lt_trichotomy h h' with l | e | l
  · exfalso
    obtain ⟨m, rfl⟩ : ∃ m, h' = m + 1 := ⟨h' - 1, by omega⟩
    obtain ⟨q, hq, hw⟩ := H'.yes m rfl
    exact H.no m q (by omega) hq hw
  · exact e
  · exfalso
    obtain ⟨m, rfl⟩ : ∃ m, h = m + 1 := ⟨h - 1, by omega⟩
    obtain ⟨q, hq, hw⟩ := H.yes m rfl
    exact H'.no m q (by omega) hq hw
/-- Every lesser height is some place's. -/
theorem Ht.each {p h : Nat} (H : Ht n nx p h) : ∀ j, 1 ≤ j → j ≤ h → ∃ q, q < n ∧ Ht n nx q j := by
  induction H with
  | fin => intro j h1 h2; omega
  | step p m g hp hs hl hm ih =>
    intro j h1 h2
    by_cases e : j = m + 1
    · subst e; exact ⟨p, hp, .step p m g hp hs hl hm⟩
    · rcases hm with rfl | ⟨q, hq, e'⟩
      · omega
      · exact ih q hq j h1 (by omega)
theorem pigeon : ∀ (n h : Nat) (c : Nat → Nat), (∀ j, j < h → c j < n) → (∀ i j, i < h → j < h → c i = c j → i = j) → h ≤ n
  | 0, h, c, hc, _ => by
    cases h with
    | zero => exact Nat.le_refl _
    | succ h => have := hc 0 (by omega); omega
  | n + 1, h, c, hc, hi => by
    by_cases e : ∃ j0, j0 < h ∧ c j0 = n
    · obtain ⟨j0, hj, e⟩ := e
      have := pigeon n (h - 1) (fun j => if j < j0 then c j else c (j + 1)) (fun j hj' => by
        split
        · have a := hc j (by omega)
          have b : c j ≠ n := fun e' => by have := hi j j0 (by omega) hj (e'.trans e.symm); omega
          omega
        · have a := hc (j + 1) (by omega)
          have b : c (j + 1) ≠ n := fun e' => by have := hi (j + 1) j0 (by omega) hj (e'.trans e.symm); omega
          omega) (fun i j h1 h2 e' => by
        split at e' <;> split at e'
        · exact hi i j (by omega) (by omega) e'
        · have := hi i (j + 1) (by omega) (by omega) e'; omega
        · have := hi (i + 1) j (by omega) (by omega) e'; omega
        · have := hi (i + 1) (j + 1) (by omega) (by omega) e'; omega)
      omega
    · have := pigeon n h c (fun j hj => by
        have a := hc j hj
        have b : c j ≠ n := fun e' => e ⟨j, hj, e'⟩
        omega) hi
      omega
/-- A height is no more than the places. -/
theorem Ht.le {p h : Nat} (H : Ht n nx p h) : h ≤ n := by
  have ex : ∀ j, ∃ q, j < h → q < n ∧ Ht n nx q (j + 1) := fun j => by
    by_cases e : j < h
    · obtain ⟨q, hq, hh⟩ := H.each (j + 1) (by omega) (by omega)
      exact ⟨q, fun _ => ⟨hq, hh⟩⟩
    · exact ⟨0, fun e' => absurd e' e⟩
  have hc := fun j => Classical.choose_spec (ex j)
  refine pigeon n h (fun j => Classical.choose (ex j)) (fun j hj => (hc j hj).1) (fun i j hi hj e => ?_)
  have a := (hc i hi).2
  have b := (hc j hj).2
  have e : Classical.choose (ex i) = Classical.choose (ex j) := e
  rw [e] at a
  have := a.uniq b
  omega
theorem Wk.trans {i j p q r : Nat} (h : Wk n nx i p q) (k : Wk n nx j q r) : Wk n nx (i + j) p r := by
  induction i generalizing p with
  | zero => obtain rfl : p = q := h; rw [Nat.zero_add]; exact k
  | succ i ih =>
    rw [show i + 1 + j = (i + j) + 1 by omega]
    obtain ⟨hp, s, hs, hw⟩ := h
    exact ⟨hp, s, hs, ih hw⟩
/-- A walk's beginning. -/
theorem Wk.pre {i j p r : Nat} (h : Wk n nx (i + j) p r) (hr : r < n) : ∃ q, q < n ∧ Wk n nx i p q := by
  induction i generalizing p with
  | zero =>
    rw [Nat.zero_add] at h
    cases j with
    | zero => obtain rfl : p = r := h; exact ⟨p, hr, rfl⟩
    | succ j => exact ⟨p, h.1, rfl⟩
  | succ i ih =>
    rw [show i + 1 + j = (i + j) + 1 by omega] at h
    obtain ⟨hp, s, hs, hw⟩ := h
    obtain ⟨q, hq, hw⟩ := ih hw
    exact ⟨q, hq, hp, s, hs, hw⟩
/-- Who can come to a circle can walk for ever. -/
theorem Wk.ever {i k o p : Nat} (h : Wk n nx i o p) (hp : p < n) (c : Wk n nx (k + 1) p p) : ∀ m, ∃ q, q < n ∧ Wk n nx m o q := by
  have it : ∀ t, ∃ j, t ≤ j ∧ Wk n nx j p p := fun t => by
    induction t with
    | zero => exact ⟨0, Nat.le_refl _, rfl⟩
    | succ t ih =>
      obtain ⟨j, hj, hw⟩ := ih
      exact ⟨j + (k + 1), by omega, hw.trans c⟩
  intro m
  obtain ⟨j, hj, hw⟩ := it m
  have := h.trans hw
  rw [show i + j = m + (i + j - m) by omega] at this
  exact this.pre hp
end
end Go.Proofs.YtanmpioplckgbaaDoor
