import Derived.Test.YtgfjhogogajbjabKeepSt
namespace Go.Proofs.Ytgfjhogogajbjab

/-- Whom a pick names. -/
def nmz (n : Nat) (p : Int) : Int := if p < 0 ∨ (n : Int) ≤ p then -1 else p
theorem nmz_lo (n : Nat) (p : Int) : -1 ≤ nmz n p := by unfold nmz; split <;> omega
theorem nmz_hi (n : Nat) (p : Int) : nmz n p < n := by unfold nmz; split <;> omega

/-- How far a run of t goes from i on, k places at most. -/
def ext (f : Nat → Int) (t : Int) : Nat → Nat → Nat
  | 0, i => i
  | k + 1, i => if f i = t then ext f t k (i + 1) else i
theorem ext_ge (f : Nat → Int) (t : Int) : ∀ k i, i ≤ ext f t k i
  | 0, _ => Nat.le_refl _
  | k + 1, i => by
    unfold ext
    split
    · exact Nat.le_trans (Nat.le_succ i) (ext_ge f t k (i + 1))
    · exact Nat.le_refl _
theorem ext_le (f : Nat → Int) (t : Int) : ∀ k i, ext f t k i ≤ i + k
  | 0, _ => Nat.le_refl _
  | k + 1, i => by
    unfold ext
    split
    · have := ext_le f t k (i + 1); omega
    · omega
theorem ext_same (f : Nat → Int) (t : Int) : ∀ k i j, i ≤ j → j < ext f t k i → f j = t
  | 0, i, j, h1, h2 => by unfold ext at h2; omega
  | k + 1, i, j, h1, h2 => by
    unfold ext at h2
    by_cases e : f i = t
    · rw [if_pos e] at h2
      by_cases e' : i = j
      · rw [← e']; exact e
      · exact ext_same f t k (i + 1) j (by omega) h2
    · rw [if_neg e] at h2; omega
theorem ext_end (f : Nat → Int) (t : Int) : ∀ k i, ext f t k i = i + k ∨ f (ext f t k i) ≠ t
  | 0, _ => .inl rfl
  | k + 1, i => by
    unfold ext
    by_cases e : f i = t
    · rw [if_pos e]
      rcases ext_end f t k (i + 1) with h | h
      · exact .inl (by omega)
      · exact .inr h
    · rw [if_neg e]; exact .inr e
/-- There is one such place alone. -/
theorem ext_eq {f : Nat → Int} {t : Int} {k i e : Nat} (h1 : i ≤ e) (h2 : e ≤ i + k) (hs : ∀ j, i ≤ j → j < e → f j = t) (he : e = i + k ∨ f e ≠ t) : e = ext f t k i := by
  have a1 := ext_ge f t k i
  have a2 := ext_le f t k i
  rcases Nat.lt_trichotomy e (ext f t k i) with h | h | h
  · rcases he with he | he
    · omega
    · exact absurd (ext_same f t k i e h1 h) he
  · exact h
  · rcases ext_end f t k i with hx | hx
    · omega
    · exact absurd (hs _ a1 h) hx

/-- Where the k-th stretch begins, of m picks. -/
def pos (f : Nat → Int) (m : Nat) : Nat → Nat
  | 0 => 0
  | k + 1 => if pos f m k < m then ext f (f (pos f m k)) (m - pos f m k) (pos f m k) else pos f m k
theorem pos_le (f : Nat → Int) (m : Nat) : ∀ k, pos f m k ≤ m
  | 0 => Nat.zero_le _
  | k + 1 => by
    unfold pos
    split
    · have := ext_le f (f (pos f m k)) (m - pos f m k) (pos f m k); omega
    · exact pos_le f m k
theorem pos_lt {f : Nat → Int} {m k : Nat} (h : pos f m k < m) : pos f m k < pos f m (k + 1) := by
  rw [pos, if_pos h]
  have h1 := ext_ge f (f (pos f m k)) (m - pos f m k) (pos f m k)
  rcases ext_end f (f (pos f m k)) (m - pos f m k) (pos f m k) with hx | hx
  · omega
  · rcases Nat.lt_or_ge (pos f m k) (ext f (f (pos f m k)) (m - pos f m k) (pos f m k)) with h2 | h2
    · exact h2
    · have : ext f (f (pos f m k)) (m - pos f m k) (pos f m k) = pos f m k := by omega
      rw [this] at hx
      exact absurd rfl hx
theorem pos_same {f : Nat → Int} {m k : Nat} (h : pos f m k < m) : ∀ j, pos f m k ≤ j → j < pos f m (k + 1) → f j = f (pos f m k) := fun j h1 h2 => by
  rw [pos, if_pos h] at h2
  exact ext_same _ _ _ _ j h1 h2
theorem pos_end {f : Nat → Int} {m k : Nat} (h : pos f m k < m) : pos f m (k + 1) = m ∨ f (pos f m (k + 1)) ≠ f (pos f m k) := by
  rw [pos, if_pos h]
  rcases ext_end f (f (pos f m k)) (m - pos f m k) (pos f m k) with hx | hx
  · exact .inl (by omega)
  · exact .inr hx
theorem pos_eq {f : Nat → Int} {m k e : Nat} (h : pos f m k < m) (h1 : pos f m k ≤ e) (h2 : e ≤ m) (hs : ∀ j, pos f m k ≤ j → j < e → f j = f (pos f m k)) (he : e = m ∨ f e ≠ f (pos f m k)) : e = pos f m (k + 1) := by
  rw [pos, if_pos h]
  exact ext_eq h1 (by omega) hs (he.imp (fun e => by omega) id)
theorem pos_ge {f : Nat → Int} {m : Nat} : ∀ k, k ≤ pos f m k ∨ pos f m k = m
  | 0 => .inl (Nat.zero_le _)
  | k + 1 => by
    by_cases h : pos f m k < m
    · have h1 := pos_lt h
      rcases pos_ge (f := f) (m := m) k with h2 | h2
      · exact .inl (by omega)
      · omega
    · have := pos_le f m k
      refine .inr ?_
      rw [pos, if_neg h]
      omega
/-- How many stretches there are. -/
def Many (f : Nat → Int) (m M : Nat) : Prop := M ≤ m ∧ pos f m M = m ∧ ∀ k, k < M → pos f m k < m
theorem many (f : Nat → Int) (m : Nat) : ∃ M, Many f m M := by
  have key : ∀ d k, m = k + d → (∀ j, j < k → pos f m j < m) → ∃ M, Many f m M := by
    intro d
    induction d with
    | zero =>
      intro k hk hj
      refine ⟨k, by omega, ?_, hj⟩
      have := pos_le f m k
      rcases pos_ge (f := f) (m := m) k with h | h
      · omega
      · exact h
    | succ d ih =>
      intro k hk hj
      by_cases h : pos f m k < m
      · exact ih (k + 1) (by omega) (fun j hj' => by
          by_cases e : j = k
          · rw [e]; exact h
          · exact hj j (by omega))
      · have := pos_le f m k
        exact ⟨k, by omega, by omega, hj⟩
  exact key m 0 (by omega) (fun j hj => by omega)
theorem pos_mono {f : Nat → Int} {m : Nat} : ∀ {k j}, k ≤ j → pos f m k ≤ pos f m j
  | k, 0, h => by rw [show k = 0 by omega]; exact Nat.le_refl _
  | k, j + 1, h => by
    by_cases e : k = j + 1
    · rw [e]; exact Nat.le_refl _
    · refine Nat.le_trans (pos_mono (k := k) (j := j) (by omega)) ?_
      by_cases h : pos f m j < m
      · exact Nat.le_of_lt (pos_lt h)
      · rw [pos, if_neg h]; exact Nat.le_refl _

/-- The most picks in a row that leave one and the same of n threads out. -/
structure Gap (f : Nat → Int) (m n R : Nat) : Prop where
  most : ∀ t a k : Nat, t < n → a + k ≤ m → (∀ j, a ≤ j → j < a + k → f j ≠ (t : Int)) → k ≤ R
  some_ : ∃ t a : Nat, t < n ∧ a + R ≤ m ∧ ∀ j, a ≤ j → j < a + R → f j ≠ (t : Int)
theorem Gap.le {f : Nat → Int} {m n R : Nat} (h : Gap f m n R) : R ≤ m := by obtain ⟨t, a, _, h2, _⟩ := h.some_; omega
theorem Gap.uniq {f : Nat → Int} {m n R R' : Nat} (h : Gap f m n R) (h' : Gap f m n R') : R = R' := by
  obtain ⟨t, a, h1, h2, h3⟩ := h.some_
  obtain ⟨t', a', h1', h2', h3'⟩ := h'.some_
  have x := h'.most t a R h1 h2 h3
  have y := h.most t' a' R' h1' h2' h3'
  omega

/-- What Least knows behind the first i picks: b: the place behind the last pick of each thread; L: the longest that came ahead of one. -/
structure Far (f : Nat → Int) (n i : Nat) (L : Nat) (b : Nat → Nat) : Prop where
  le : ∀ t, t < n → b t ≤ i
  not : ∀ t, t < n → ∀ j, b t ≤ j → j < i → f j ≠ (t : Int)
  last : ∀ t, t < n → b t = 0 ∨ f (b t - 1) = (t : Int)
  most : ∀ t a k : Nat, t < n → a + k ≤ i → (∀ j, a ≤ j → j < a + k → f j ≠ (t : Int)) → k ≤ L ∨ b t ≤ a
  some_ : L = 0 ∨ ∃ t a : Nat, t < n ∧ a + L ≤ i ∧ ∀ j, a ≤ j → j < a + L → f j ≠ (t : Int)
theorem Far.zero (f : Nat → Int) (n : Nat) : Far f n 0 0 (fun _ => 0) where
  le _ _ := Nat.le_refl _
  not _ _ j h1 h2 := by omega
  last _ _ := .inl rfl
  most _ _ _ _ _ _ := .inr (Nat.zero_le _)
  some_ := .inl rfl
/-- A stretch of nobody. -/
theorem Far.none {f : Nat → Int} {n i i' L : Nat} {b : Nat → Nat} (h : Far f n i L b) (hi : i ≤ i') (hs : ∀ j, i ≤ j → j < i' → f j = -1) : Far f n i' L b where
  le t ht := Nat.le_trans (h.le t ht) hi
  not t ht j h1 h2 := by
    by_cases e : j < i
    · exact h.not t ht j h1 e
    · rw [hs j (by omega) h2]; omega
  last := h.last
  most t a k ht hk hn := by
    by_cases e : a + k ≤ i
    · exact h.most t a k ht e hn
    · rcases Nat.lt_or_ge a i with e' | e'
      · rcases h.most t a (i - a) ht (by omega) (fun j h1 h2 => hn j h1 (by omega)) with h3 | h3
        · by_cases e2 : b t ≤ a
          · exact .inr e2
          · exfalso
            rcases h.last t ht with h4 | h4
            · omega
            · have := h.le t ht
              exact hn (b t - 1) (by omega) (by omega) h4
        · exact .inr h3
      · exact .inr (Nat.le_trans (h.le t ht) e')
  some_ := h.some_.imp id (fun ⟨t, a, h1, h2, h3⟩ => ⟨t, a, h1, by omega, h3⟩)
/-- A stretch of thread u. -/
theorem Far.some {f : Nat → Int} {n i i' L u : Nat} {b : Nat → Nat} (h : Far f n i L b) (hu : u < n) (hi : i < i') (hs : ∀ j, i ≤ j → j < i' → f j = (u : Int)) : Far f n i' (max L (i - b u)) (fun t => if t = u then i' else b t) where
  le t ht := by
    show (if t = u then i' else b t) ≤ i'
    split
    · exact Nat.le_refl _
    · exact Nat.le_trans (h.le t ht) (by omega)
  not t ht j h1 h2 := by
    by_cases e : t = u
    · simp only [e, if_true] at h1; omega
    · simp only [e, if_false] at h1
      by_cases e' : j < i
      · exact h.not t ht j h1 e'
      · rw [hs j (by omega) h2]; omega
  last t ht := by
    by_cases e : t = u
    · refine .inr ?_
      simp only [e, if_true]
      exact hs _ (by omega) (by omega)
    · simp only [e, if_false]; exact h.last t ht
  most t a k ht hk hn := by
    by_cases e : t = u
    · simp only [e, if_true]
      rw [e] at hn
      by_cases k0 : k = 0
      · exact .inl (by omega)
      · have hk' : a + k ≤ i := by
          rcases Nat.lt_or_ge i (a + k) with h3 | h3
          · exfalso
            have := hs (max a i) (by omega) (by omega)
            exact hn (max a i) (by omega) (by omega) this
          · exact h3
        rcases h.most u a k hu hk' hn with h3 | h3
        · exact .inl (by omega)
        · exact .inl (by omega)
    · simp only [e, if_false]
      by_cases e1 : a + k ≤ i
      · exact (h.most t a k ht e1 hn).imp (fun h => by omega) id
      · by_cases e2 : b t ≤ a
        · exact .inr e2
        · exfalso
          rcases h.last t ht with h4 | h4
          · omega
          · have := h.le t ht
            exact hn (b t - 1) (by omega) (by omega) h4
  some_ := by
    by_cases e : i - b u ≤ L
    · rw [Nat.max_eq_left e]
      exact h.some_.imp id (fun ⟨t, a, h1, h2, h3⟩ => ⟨t, a, h1, by omega, h3⟩)
    · rw [Nat.max_eq_right (by omega)]
      refine .inr ⟨u, b u, hu, by omega, fun j h1 h2 => h.not u hu j h1 (by omega)⟩
/-- At the end the places behind the last picks are looked at: q of the n threads are over. -/
structure Fin_ (f : Nat → Int) (n m : Nat) (b : Nat → Nat) (q L : Nat) : Prop where
  most : ∀ t a k : Nat, t < n → a + k ≤ m → (∀ j, a ≤ j → j < a + k → f j ≠ (t : Int)) → k ≤ L ∨ (q ≤ t ∧ b t ≤ a)
  some_ : L = 0 ∨ ∃ t a : Nat, t < n ∧ a + L ≤ m ∧ ∀ j, a ≤ j → j < a + L → f j ≠ (t : Int)
theorem Far.fin {f : Nat → Int} {n m L : Nat} {b : Nat → Nat} (h : Far f n m L b) : Fin_ f n m b 0 L :=
  ⟨fun t a k h1 h2 h3 => (h.most t a k h1 h2 h3).imp id (fun e => ⟨Nat.zero_le _, e⟩), h.some_⟩
theorem Fin_.next {f : Nat → Int} {n m q L L0 : Nat} {b : Nat → Nat} (h0 : Far f n m L0 b) (h : Fin_ f n m b q L) (hq : q < n) : Fin_ f n m b (q + 1) (max L (m - b q)) where
  most t a k h1 h2 h3 := by
    rcases h.most t a k h1 h2 h3 with h4 | ⟨h4, h5⟩
    · exact .inl (by omega)
    · by_cases e : t = q
      · rw [e] at h5; exact .inl (by omega)
      · exact .inr ⟨by omega, h5⟩
  some_ := by
    by_cases e : m - b q ≤ L
    · rw [Nat.max_eq_left e]; exact h.some_
    · rw [Nat.max_eq_right (by omega)]
      exact .inr ⟨q, b q, hq, by omega, fun j h1 h2 => h0.not q hq j h1 (by omega)⟩
theorem Fin_.gap {f : Nat → Int} {n m L : Nat} {b : Nat → Nat} (hn : 0 < n) (h : Fin_ f n m b n L) : Gap f m n L :=
  ⟨fun t a k h1 h2 h3 => (h.most t a k h1 h2 h3).elim id (fun e => by omega), h.some_.elim (fun e => ⟨0, 0, hn, by omega, fun j h1 h2 => by omega⟩) id⟩

/-- One list behind the other. -/
theorem Gap.join {f g h : Nat → Int} {m k n A B C : Nat} (hf : Gap f m n A) (hg : Gap g k n B) (hh : Gap h (m + k) n C) (e1 : ∀ i, i < m → h i = f i) (e2 : ∀ i, i < k → h (m + i) = g i) : A ≤ C ∧ B ≤ C ∧ C ≤ A + B := by
  refine ⟨?_, ?_, ?_⟩
  · obtain ⟨t, a, h1, h2, h3⟩ := hf.some_
    exact hh.most t a A h1 (by omega) (fun j h4 h5 => by rw [e1 j (by omega)]; exact h3 j h4 h5)
  · obtain ⟨t, a, h1, h2, h3⟩ := hg.some_
    refine hh.most t (m + a) B h1 (by omega) (fun j h4 h5 => ?_)
    have := e2 (j - m) (by omega)
    rw [show m + (j - m) = j by omega] at this
    rw [this]; exact h3 _ (by omega) (by omega)
  · obtain ⟨t, a, h1, h2, h3⟩ := hh.some_
    have x1 : min (a + C) m - a ≤ A := by
      rcases Nat.lt_or_ge a m with h4 | h4
      · exact hf.most t a (min (a + C) m - a) h1 (by omega) (fun j h5 h6 => by rw [← e1 j (by omega)]; exact h3 j h5 (by omega))
      · omega
    have x2 : (a + C) - max a m ≤ B := by
      rcases Nat.lt_or_ge m (a + C) with h4 | h4
      · refine hg.most t (max a m - m) ((a + C) - max a m) h1 (by omega) (fun j h5 h6 => ?_)
        rw [← e2 j (by omega)]; exact h3 _ (by omega) (by omega)
      · omega
    omega
end Go.Proofs.Ytgfjhogogajbjab
