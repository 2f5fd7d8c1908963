import Derived.WalkKit
import Derived.ProofKit
namespace Go.Proofs.Ytfbbllokpikbiab
open Go.RowKit

/-- An item as a pair: its key, its ID. -/
abbrev It := Int × Int

/-- The item at a place. -/
def ia (xs : List It) (i : Nat) : It := xs.getD i (0, 0)

/-- Two places exchanged. -/
def sw (xs : List It) (i j : Nat) : List It := (xs.set i (ia xs j)).set j (ia xs i)

/-- The document's Before. -/
def bef (a b : It) : Bool := decide (a.1 < b.1 ∨ (a.1 = b.1 ∧ a.2 < b.2))

/-- What is asked of an order. -/
structure Lin (lt : It → It → Bool) : Prop where
  asym : ∀ {a b}, lt a b = true → lt b a = false
  trans : ∀ {a b c}, lt a b = false → lt b c = false → lt a c = false
  eq : ∀ {a b}, lt a b = false → lt b a = false → a = b

theorem bef_lin : Lin bef where
  asym := by intro a b h; simp only [bef, decide_eq_true_eq, decide_eq_false_iff_not] at *; omega
  trans := by intro a b c h k; simp only [bef, decide_eq_false_iff_not] at *; omega
  eq := by
    intro a b h k
    simp only [bef, decide_eq_false_iff_not] at *
    have h1 : a.1 = b.1 := by omega
    have h2 : a.2 = b.2 := by omega
    exact Prod.ext h1 h2

/-- The order turned round. -/
def feb (a b : It) : Bool := bef b a
theorem feb_lin : Lin feb where
  asym := fun h => bef_lin.asym h
  trans := fun h k => bef_lin.trans k h
  eq := fun h k => bef_lin.eq k h

theorem Lin.irr {lt} (L : Lin lt) (a : It) : lt a a = false := by
  cases h : lt a a with
  | false => rfl
  | true => have := L.asym h; rw [h] at this; exact this
/-- a before b, c not before b: c is not before a. -/
theorem Lin.lift {lt} (L : Lin lt) {a b c : It} (h : lt a b = true) (k : lt c b = false) : lt c a = false := L.trans k (L.asym h)

theorem length_sw (xs : List It) (i j : Nat) : (sw xs i j).length = xs.length := by simp [sw]

theorem ia_sw {xs : List It} {i j : Nat} (hi : i < xs.length) (hj : j < xs.length) (k : Nat) :
    ia (sw xs i j) k = if k = j then ia xs i else if k = i then ia xs j else ia xs k := by
  unfold ia sw
  simp only [List.getD_eq_getElem?_getD]
  by_cases h1 : k = j
  · subst h1
    rw [List.getElem?_set_self (by simp; omega)]; simp [ia]
  · rw [List.getElem?_set_ne (by omega)]
    by_cases h2 : k = i
    · subst h2
      rw [List.getElem?_set_self hi]; simp [h1, ia]
    · rw [List.getElem?_set_ne (by omega)]; simp [h1, h2]

theorem ia_get {xs : List It} {i : Nat} (hi : i < xs.length) : ia xs i = xs[i] := by simp [ia, List.getD_eq_getElem?_getD, hi]
theorem ia_mem {xs : List It} {i : Nat} (hi : i < xs.length) : ia xs i ∈ xs := by rw [ia_get hi]; exact List.getElem_mem hi

theorem sw_self {xs : List It} {i : Nat} (hi : i < xs.length) : sw xs i i = xs := by
  unfold sw
  rw [List.set_set, ia_get hi]
  exact List.set_getElem_self hi

theorem perm_set_cons : ∀ (xs : List It) (i : Nat) (x : It) (_ : i < xs.length), List.Perm (ia xs i :: xs.set i x) (x :: xs)
  | y :: ys, 0, x, _ => by simp only [ia, List.set_cons_zero, List.getD_cons_zero]; exact List.Perm.swap x y ys
  | y :: ys, i + 1, x, h => by
    have ih := perm_set_cons ys i x (by simpa using h)
    have e : ia (y :: ys) (i + 1) = ia ys i := by simp [ia]
    rw [e, List.set_cons_succ]
    exact (List.Perm.swap y (ia ys i) _).trans ((ih.cons y).trans (List.Perm.swap x y ys))

theorem sw_perm {xs : List It} {i j : Nat} (hi : i < xs.length) (hj : j < xs.length) : (sw xs i j).Perm xs := by
  by_cases hij : i = j
  · subst hij; rw [sw_self hi]
  · have h1 := perm_set_cons xs i (ia xs j) hi
    have h2 := perm_set_cons (xs.set i (ia xs j)) j (ia xs i) (by simpa using hj)
    have e : ia (xs.set i (ia xs j)) j = ia xs j := by
      simp only [ia, List.getD_eq_getElem?_getD]; rw [List.getElem?_set_ne hij]
    rw [e] at h2
    exact List.Perm.cons_inv (h2.trans h1)

/-- The place above. -/
def up (i : Nat) : Nat := (i - 1) / 2

/-- Every place but those that are named keeps the heap's order. -/
def Heap (lt : It → It → Bool) (xs : List It) : Prop := ∀ i, 0 < i → i < xs.length → lt (ia xs i) (ia xs (up i)) = false
/-- Something may lie wrong at p, up or down. -/
def Loose (lt : It → It → Bool) (xs : List It) (p : Nat) : Prop :=
  (∀ i, 0 < i → i < xs.length → i ≠ p → up i ≠ p → lt (ia xs i) (ia xs (up i)) = false) ∧
  (∀ c, 0 < c → c < xs.length → up c = p → 0 < p → lt (ia xs c) (ia xs (up p)) = false)
/-- What is below p lies right. -/
def Below' (lt : It → It → Bool) (xs : List It) (p : Nat) : Prop := ∀ c, 0 < c → c < xs.length → up c = p → lt (ia xs c) (ia xs p) = false
/-- Something may lie wrong below p. -/
def Heavy (lt : It → It → Bool) (xs : List It) (p : Nat) : Prop :=
  (∀ i, 0 < i → i < xs.length → up i ≠ p → lt (ia xs i) (ia xs (up i)) = false) ∧
  (∀ c, 0 < c → c < xs.length → up c = p → 0 < p → lt (ia xs c) (ia xs (up p)) = false)

theorem Heap.loose {lt xs} (h : Heap lt xs) (L : Lin lt) (p : Nat) : Loose lt xs p :=
  ⟨fun i a b _ _ => h i a b, fun c h0 h1 h2 h3 => L.trans (h2 ▸ h c h0 h1) (h p h3 (by unfold up at h2; omega))⟩

theorem ia_set_ne {xs : List It} {p k : Nat} (x : It) (h : p ≠ k) : ia (xs.set p x) k = ia xs k := by
  simp only [ia, List.getD_eq_getElem?_getD]; rw [List.getElem?_set_ne h]
theorem ia_set {xs : List It} {p : Nat} (x : It) (h : p < xs.length) : ia (xs.set p x) p = x := by
  simp only [ia, List.getD_eq_getElem?_getD]; rw [List.getElem?_set_self h]; rfl

/-- Another item laid at p. -/
theorem Loose.set {lt xs p} (h : Loose lt xs p) (x : It) : Loose lt (xs.set p x) p := by
  refine ⟨fun i h0 h1 h2 h3 => ?_, fun c h0 h1 h2 h3 => ?_⟩
  · rw [ia_set_ne x (Ne.symm h2), ia_set_ne x (Ne.symm h3)]; exact h.1 i h0 (by simpa using h1) h2 h3
  · have e1 : p ≠ c := by unfold up at h2; omega
    have e2 : p ≠ up p := by unfold up; omega
    rw [ia_set_ne x e1, ia_set_ne x e2]; exact h.2 c h0 (by simpa using h1) h2 h3

theorem Loose.up_step {lt} (L : Lin lt) {xs : List It} {p : Nat} (h : Loose lt xs p) (hp : 0 < p) (hl : p < xs.length) (hlt : lt (ia xs p) (ia xs (up p)) = true) :
    Loose lt (sw xs p (up p)) (up p) ∧ Below' lt (sw xs p (up p)) (up p) := by
  have hu : up p < p := by unfold up; omega
  have hul : up p < xs.length := by omega
  have E := ia_sw hl hul
  refine ⟨⟨fun i h0 h1 h2 h3 => ?_, fun c h0 h1 h2 h3 => ?_⟩, fun c h0 h1 h2 => ?_⟩
  · rw [length_sw] at h1
    have hip : i ≠ p := fun e => h3 (by rw [e])
    by_cases hup : up i = p
    · rw [E i, E (up i), if_neg h2, if_neg hip, hup, if_neg (by omega), if_pos rfl]
      exact h.2 i h0 h1 hup hp
    · rw [E i, E (up i), if_neg h2, if_neg hip, if_neg h3, if_neg hup]
      exact h.1 i h0 h1 hip hup
  · rw [length_sw] at h1
    have hcu : c ≠ up p := by unfold up at h2 ⊢; omega
    have huu : up (up p) < up p := by unfold up at *; omega
    have e1 := E c
    have e2 := E (up (up p))
    rw [if_neg hcu] at e1
    rw [if_neg (by omega), if_neg (by omega)] at e2
    rw [e1, e2]
    have hg : lt (ia xs (up p)) (ia xs (up (up p))) = false := h.1 (up p) h3 hul (by omega) (by omega)
    by_cases hcp : c = p
    · rw [if_pos hcp]; exact hg
    · rw [if_neg hcp]
      exact L.trans (h2 ▸ h.1 c h0 h1 hcp (by omega)) hg
  · rw [length_sw] at h1
    have hcu : c ≠ up p := by unfold up at h2 ⊢; omega
    rw [E c, E (up p), if_neg hcu, if_pos rfl]
    by_cases hcp : c = p
    · rw [if_pos hcp]; exact L.asym hlt
    · rw [if_neg hcp]
      exact L.lift hlt (h2 ▸ h.1 c h0 h1 hcp (by omega))

/-- Nothing wrong upward. -/
theorem Loose.heavy {lt} {xs : List It} {p : Nat} (h : Loose lt xs p) (hs : 0 < p → p < xs.length → lt (ia xs p) (ia xs (up p)) = false) : Heavy lt xs p :=
  ⟨fun i h0 h1 h2 => if e : i = p then by subst e; exact hs h0 h1 else h.1 i h0 h1 e h2, h.2⟩
theorem Heavy.heap {lt} {xs : List It} {p : Nat} (h : Heavy lt xs p) (hb : Below' lt xs p) : Heap lt xs :=
  fun i h0 h1 => if e : up i = p then by rw [e]; exact hb i h0 h1 e else h.1 i h0 h1 e

theorem Heavy.down_step {lt} (L : Lin lt) {xs : List It} {p b : Nat} (h : Heavy lt xs p) (hb0 : 0 < b) (hbl : b < xs.length) (hbp : up b = p)
    (hlt : lt (ia xs b) (ia xs p) = true) (hmin : ∀ c, 0 < c → c < xs.length → up c = p → lt (ia xs c) (ia xs b) = false) :
    Heavy lt (sw xs p b) b := by
  have hu : p < b := by unfold up at hbp; omega
  have hpl : p < xs.length := by omega
  have E := ia_sw hpl hbl
  refine ⟨fun i h0 h1 h2 => ?_, fun c h0 h1 h2 _ => ?_⟩
  · rw [length_sw] at h1
    by_cases hip : i = p
    · subst hip
      have e1 : up i ≠ i := by unfold up; omega
      rw [E i, E (up i), if_neg (by omega), if_pos rfl, if_neg h2, if_neg e1]
      exact h.2 b hb0 hbl hbp h0
    · by_cases hup : up i = p
      · by_cases hib : i = b
        · rw [E i, E (up i), if_pos hib, if_neg h2, if_pos hup]; exact L.asym hlt
        · rw [E i, E (up i), if_neg hib, if_neg hip, if_neg h2, if_pos hup]; exact hmin i h0 h1 hup
      · have hib : i ≠ b := fun e => hup (by rw [e]; exact hbp)
        rw [E i, E (up i), if_neg hib, if_neg hip, if_neg h2, if_neg hup]; exact h.1 i h0 h1 hup
  · rw [length_sw] at h1
    have hcb : c ≠ b := by unfold up at h2; omega
    have hcp : c ≠ p := by unfold up at h2; omega
    rw [E c, E (up b), if_neg hcb, if_neg hcp, hbp, if_neg (by omega), if_pos rfl]
    have := h.1 c h0 h1 (by omega)
    rw [h2] at this; exact this

/-- At the top lies one that none is before. -/
theorem Heap.top {lt} (L : Lin lt) {xs : List It} (h : Heap lt xs) : ∀ i, i < xs.length → lt (ia xs i) (ia xs 0) = false := by
  intro i
  induction i using Nat.strongRecOn with
  | ind i ih =>
    intro hi
    by_cases h0 : i = 0
    · subst h0; exact L.irr _
    · exact L.trans (h i (by omega) hi) (ih (up i) (by unfold up; omega) (by unfold up; omega))

/-- One more behind. -/
theorem Heap.snoc_loose {lt} {xs : List It} (h : Heap lt xs) (x : It) : Loose lt (xs ++ [x]) xs.length := by
  have E : ∀ k, k < xs.length → ia (xs ++ [x]) k = ia xs k := fun k hk => by
    simp only [ia, List.getD_eq_getElem?_getD]; rw [List.getElem?_append_left hk]
  refine ⟨fun i h0 h1 h2 h3 => ?_, fun c h0 h1 h2 h3 => ?_⟩
  · simp at h1
    rw [E i (by omega), E (up i) (by unfold up; omega)]; exact h i h0 (by omega)
  · simp at h1; unfold up at h2; omega
theorem Heap.below_last {lt} {xs : List It} {x : It} : Below' lt (xs ++ [x]) xs.length := by
  intro c h0 h1 h2; simp at h1; unfold up at h2; omega

/-- The last one taken off. -/
theorem Loose.take {lt} {xs : List It} {p n : Nat} (h : Loose lt xs p) (hn : n ≤ xs.length) : Loose lt (xs.take n) p := by
  have E : ∀ k, k < n → ia (xs.take n) k = ia xs k := fun k hk => by
    simp only [ia, List.getD_eq_getElem?_getD]; rw [List.getElem?_take_of_lt hk]
  refine ⟨fun i h0 h1 h2 h3 => ?_, fun c h0 h1 h2 h3 => ?_⟩
  · simp at h1
    rw [E i (by omega), E (up i) (by unfold up; omega)]; exact h.1 i h0 (by omega) h2 h3
  · simp at h1
    rw [E c (by omega), E (up p) (by unfold up at *; omega)]; exact h.2 c h0 (by omega) h2 h3

theorem ia_take {xs : List It} {n k : Nat} (hk : k < n) : ia (xs.take n) k = ia xs k := by
  simp only [ia, List.getD_eq_getElem?_getD]; rw [List.getElem?_take_of_lt hk]

/-- Exchanged with the last one, which is then taken off: what is left may lie wrong at p alone. -/
theorem Heap.cut_loose {lt} (L : Lin lt) {xs : List It} {p : Nat} (h : Heap lt xs) (hp : p < xs.length) : Loose lt ((sw xs p (xs.length - 1)).take (xs.length - 1)) p := by
  have E := ia_sw hp (show xs.length - 1 < xs.length by omega)
  have T := fun k (hk : k < xs.length - 1) => ia_take (xs := sw xs p (xs.length - 1)) hk
  have HL := h.loose L p
  refine ⟨fun i h0 h1 h2 h3 => ?_, fun c h0 h1 h2 h3 => ?_⟩
  · simp [length_sw] at h1
    rw [T i (by omega), T (up i) (by unfold up; omega), E i, E (up i), if_neg (by omega), if_neg h2, if_neg (by unfold up; omega), if_neg h3]
    exact h i h0 (by omega)
  · simp [length_sw] at h1
    have hc : c ≠ p := by unfold up at h2; omega
    rw [T c (by omega), T (up p) (by unfold up at *; omega), E c, E (up p), if_neg (by omega), if_neg hc, if_neg (by unfold up at *; omega), if_neg (by unfold up; omega)]
    exact HL.2 c h0 (by omega) h2 h3
theorem Heap.cut_last {lt} {xs : List It} (h : Heap lt xs) : Heap lt (xs.take (xs.length - 1)) := by
  intro i h0 h1
  simp at h1
  rw [ia_take (by omega), ia_take (by unfold up; omega)]; exact h i h0 (by omega)

theorem take_snoc {xs : List It} (h : 0 < xs.length) : xs = xs.take (xs.length - 1) ++ [ia xs (xs.length - 1)] := by
  have e : xs.take (xs.length - 1 + 1) = xs := List.take_of_length_le (by omega)
  rw [← List.take_append_getElem (l := xs) (i := xs.length - 1) (by omega)] at e
  rw [ia_get (by omega)]; exact e.symm

/-- What is cut out, and what is left, are what was there. -/
theorem cut_perm {xs : List It} {p : Nat} (hp : p < xs.length) : (ia xs p :: (sw xs p (xs.length - 1)).take (xs.length - 1)).Perm xs := by
  have h1 := sw_perm hp (show xs.length - 1 < xs.length by omega)
  have e : ia (sw xs p (xs.length - 1)) (xs.length - 1) = ia xs p := by rw [ia_sw hp (by omega), if_pos rfl]
  have h2 := take_snoc (xs := sw xs p (xs.length - 1)) (by rw [length_sw]; omega)
  rw [length_sw, e] at h2
  refine List.Perm.trans ?_ h1
  exact (List.perm_append_singleton _ _).symm.trans (List.Perm.of_eq h2.symm)

/-! ### where an ID stands -/
abbrev Mp := Int → Option Int
def Mp.put (M : Mp) (k v : Int) : Mp := fun x => if x = k then some v else M x
def Mp.del (M : Mp) (k : Int) : Mp := fun x => if x = k then none else M x

def ids (xs : List It) : List Int := xs.map (·.2)
/-- Each one's ID leads to its place. -/
def Placed (M : Mp) (xs : List It) : Prop := ∀ p, p < xs.length → M (ia xs p).2 = some (p : Int)

/-- Items exchanged among themselves, the map turned with them. -/
def Moves (xs : List It) (M : Mp) (xs' : List It) (M' : Mp) : Prop :=
  xs'.Perm xs ∧ ((ids xs).Nodup → Placed M xs → Placed M' xs') ∧ (∀ k, k ∉ ids xs → M' k = M k) ∧ (∀ k, M k ≠ none → M' k ≠ none)
/-- Each one's ID leads somewhere. -/
def Full (M : Mp) (xs : List It) : Prop := ∀ x, x ∈ xs → M x.2 ≠ none

theorem Moves.refl (xs : List It) (M : Mp) : Moves xs M xs M := ⟨List.Perm.refl _, fun _ h => h, fun _ _ => rfl, fun _ h => h⟩
theorem Moves.full {xs ys : List It} {M N : Mp} (h : Moves xs M ys N) (hf : Full M xs) : Full N ys := fun x hx => h.2.2.2 _ (hf x (h.1.mem_iff.1 hx))
theorem Placed.full {M : Mp} {xs : List It} (h : Placed M xs) : Full M xs := fun x hx => by
  obtain ⟨i, hi, rfl⟩ := List.getElem_of_mem hx
  have := h i hi
  rw [ia_get hi] at this; rw [this]; simp
theorem Full.at {M : Mp} {xs : List It} (h : Full M xs) {i : Nat} (hi : i < xs.length) : M (ia xs i).2 ≠ none := h _ (ia_mem hi)
theorem Mp.put_ne {M : Mp} {k v x : Int} (h : M x ≠ none) : M.put k v x ≠ none := by unfold Mp.put; split <;> simp [h]
theorem ids_perm {xs ys : List It} (h : xs.Perm ys) : (ids xs).Perm (ids ys) := h.map _
theorem Moves.trans {xs ys zs : List It} {M N O : Mp} (h : Moves xs M ys N) (k : Moves ys N zs O) : Moves xs M zs O :=
  ⟨k.1.trans h.1, fun hn hp => k.2.1 ((ids_perm h.1).nodup_iff.2 hn) (h.2.1 hn hp),
   fun x hx => (k.2.2.1 x (fun hm => hx ((ids_perm h.1).mem_iff.1 hm))).trans (h.2.2.1 x hx), fun x hx => k.2.2.2 x (h.2.2.2 x hx)⟩
theorem Moves.length {xs ys : List It} {M N : Mp} (h : Moves xs M ys N) : ys.length = xs.length := h.1.length_eq

theorem ids_ne {xs : List It} (hn : (ids xs).Nodup) {i j : Nat} (hi : i < xs.length) (hj : j < xs.length) (hij : i ≠ j) : (ia xs i).2 ≠ (ia xs j).2 := by
  intro e
  rw [ia_get hi, ia_get hj] at e
  have h := (List.nodup_iff_pairwise_ne.1 hn)
  rw [List.pairwise_iff_getElem] at h
  rcases Nat.lt_or_gt_of_ne hij with hlt | hgt
  · exact h i j (by simpa [ids] using hi) (by simpa [ids] using hj) hlt (by simpa [ids] using e)
  · exact h j i (by simpa [ids] using hj) (by simpa [ids] using hi) hgt (by simpa [ids] using e.symm)

theorem mem_ids {xs : List It} {i : Nat} (hi : i < xs.length) : (ia xs i).2 ∈ ids xs := List.mem_map.2 ⟨_, ia_mem hi, rfl⟩

theorem Moves.sw {xs : List It} {M : Mp} {i j : Nat} (hi : i < xs.length) (hj : j < xs.length) :
    Moves xs M (sw xs i j) ((M.put (ia xs j).2 i).put (ia (sw xs i j) j).2 j) := by
  have E := ia_sw hi hj
  have ej : ia (Proofs.Ytfbbllokpikbiab.sw xs i j) j = ia xs i := by rw [E, if_pos rfl]
  refine ⟨sw_perm hi hj, fun hn hp k hk => ?_, fun k hk => ?_, fun k hk => Mp.put_ne (Mp.put_ne hk)⟩
  · rw [length_sw] at hk
    rw [ej, E k]
    by_cases h1 : k = j
    · subst h1; simp [Mp.put]
    · rw [if_neg h1]
      by_cases h2 : k = i
      · subst h2
        rw [if_pos rfl]
        have := ids_ne hn hj hi (fun e => h1 e.symm)
        simp [Mp.put, this]
      · rw [if_neg h2]
        have a1 := ids_ne hn hk hi h2
        have a2 := ids_ne hn hk hj h1
        simp only [Mp.put, if_neg a1, if_neg a2]; exact hp k hk
  · rw [ej]
    have a1 : k ≠ (ia xs i).2 := fun e => hk (e ▸ mem_ids hi)
    have a2 : k ≠ (ia xs j).2 := fun e => hk (e ▸ mem_ids hj)
    simp [Mp.put, a1, a2]

end Go.Proofs.Ytfbbllokpikbiab
