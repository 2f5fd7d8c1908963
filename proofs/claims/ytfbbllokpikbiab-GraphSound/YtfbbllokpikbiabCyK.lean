import Derived.Test.YtfbbllokpikbiabCyF
namespace Go.Proofs.Ytfbbllokpikbiab
open Go.RowKit Go.Deep
theorem OrdL.drop_at {g : List Eg} {n : Nat} {L : List Nat} (h : OrdL g n L) {i : Nat} (hi : i < L.length) : Fre g n (L.take i) (L.getD i 0) ∧ ∀ u, Fre g n (L.take i) u → L.getD i 0 ≤ u :=
  h.at (L.take i) (L.getD i 0) (L.drop (i + 1)) (by
    have e : L.getD i 0 = L[i] := by rw [List.getD_eq_getElem?_getD, List.getElem?_eq_getElem hi]; rfl
    rw [e, ← List.drop_eq_getElem_cons hi, List.take_append_drop])
theorem mem_take_at {L : List Nat} {i x : Nat} (h : x ∈ L.take i) : ∃ j, j < i ∧ j < L.length ∧ L.getD j 0 = x := by
  obtain ⟨j, hj, q⟩ := getD_at h
  rw [List.length_take] at hj
  rw [List.getD_eq_getElem?_getD, List.getElem?_take_of_lt (by omega), ← List.getD_eq_getElem?_getD] at q
  exact ⟨j, by omega, by omega, q⟩
theorem take_mem_at {L : List Nat} {i j : Nat} (hj : j < i) (hl : j < L.length) : L.getD j 0 ∈ L.take i := by
  have h : j < (L.take i).length := by rw [List.length_take]; omega
  have := getD_memN h
  rw [List.getD_eq_getElem?_getD, List.getElem?_take_of_lt hj, ← List.getD_eq_getElem?_getD] at this
  exact this
theorem OrdL.pos {g : List Eg} {n : Nat} {L : List Nat} (h : OrdL g n L) {e : Eg} (he : e ∈ g) {j : Nat} (hj : j < L.length) (ht : e.t = L.getD j 0) : ∃ i, i < j ∧ L.getD i 0 = e.f := by
  obtain ⟨i, h1, -, h2⟩ := mem_take_at ((h.drop_at hj).1.2.2 e he ht)
  exact ⟨i, h1, h2⟩
theorem OrdL.back {g : List Eg} {n : Nat} {L : List Nat} (h : OrdL g n L) {k u v : Nat} (hp : Pth g k u v) : ∀ j, j < L.length → L.getD j 0 = v → ∃ i, i < j ∧ L.getD i 0 = u := by
  induction hp with
  | one e he => intro j hj q; exact h.pos he hj q.symm
  | more e he _ ih =>
    intro j hj q
    obtain ⟨i, hi, q2⟩ := ih j hj q
    obtain ⟨i2, hi2, q3⟩ := h.pos he (by omega) q2.symm
    exact ⟨i2, by omega, q3⟩
theorem OrdL.acyc {g : List Eg} {n : Nat} {L : List Nat} (h : OrdL g n L) {v : Nat} (hv : v ∈ L) : ¬ Rch g v v := by
  rintro ⟨k, hk⟩
  obtain ⟨j, hj, q⟩ := getD_at hv
  obtain ⟨i, hi, q2⟩ := h.back hk j hj q
  have := getD_inj h.nodup (show i < L.length by omega) hj (by rw [q2, q])
  omega
theorem OrdL.all {g : List Eg} {n : Nat} {L : List Nat} (h : OrdL g n L) (hl : L.length = n) {v : Nat} (hv : v < n) : v ∈ L := Classical.byContradiction fun q => by
  have := nodup_leN n (v :: L) (List.nodup_cons.2 ⟨q, h.nodup⟩) (fun x hx => by
    rcases List.mem_cons.1 hx with rfl | hx
    · exact hv
    · exact h.lt x hx)
  rw [List.length_cons] at this
  omega
theorem all_le : ∀ (m : Nat) (L : List Nat), (∀ v, v < m → v ∈ L) → m ≤ L.length
  | 0, _, _ => Nat.zero_le _
  | m + 1, L, h => by
    have h1 := h m (Nat.lt_succ_self m)
    have h2 := all_le m (L.erase m) (fun v hv => (List.mem_erase_of_ne (Nat.ne_of_lt hv)).2 (h v (by omega)))
    rw [List.length_erase_of_mem h1] at h2
    have h3 := List.length_pos_of_mem h1
    omega
theorem back_cycle {g : List Eg} {n : Nat} (hn : Bln g n) {L : List Nat} (hno : ∀ v, v < n → ¬ Rch g v v) (hc : ∀ u, ¬ Fre g n L u) {v : Nat} (hv : v < n) (hvL : v ∉ L) : False := by
  have key : ∀ k, ∃ P : List Nat, P.length = k + 1 ∧ P.Nodup ∧ (∀ x ∈ P, x < n) ∧ P.getD 0 0 ∉ L ∧ ∀ x ∈ P, x = P.getD 0 0 ∨ Rch g (P.getD 0 0) x := by
    intro k
    induction k with
    | zero => exact ⟨[v], rfl, by simp, (fun x hx => by simp at hx; omega), hvL, fun x hx => by simp at hx; exact .inl hx⟩
    | succ k ih =>
      obtain ⟨P, h1, h2, h3, h4, h5⟩ := ih
      have hp : P.getD 0 0 < n := h3 _ (getD_memN (by omega))
      have hcp := hc (P.getD 0 0)
      obtain ⟨e, he, q1, q2⟩ : ∃ e ∈ g, e.t = P.getD 0 0 ∧ e.f ∉ L := Classical.byContradiction fun q => hcp ⟨hp, h4, fun e he q1 => Classical.byContradiction fun q2 => q ⟨e, he, q1, q2⟩⟩
      have hr : ∀ x ∈ P, Rch g e.f x := fun x hx => by
        have r1 : Rch g e.f (P.getD 0 0) := ⟨1, by rw [← q1]; exact .one e he⟩
        rcases h5 x hx with q | q
        · rw [q]; exact r1
        · exact r1.trans q
      have hnP : e.f ∉ P := fun hx => hno e.f (hn e he).1 (hr _ hx)
      refine ⟨e.f :: P, by simp [h1], List.nodup_cons.2 ⟨hnP, h2⟩, fun x hx => ?_, q2, fun x hx => ?_⟩
      · rcases List.mem_cons.1 hx with rfl | hx
        · exact (hn e he).1
        · exact h3 x hx
      · rcases List.mem_cons.1 hx with rfl | hx
        · exact .inl rfl
        · exact .inr (hr x hx)
  obtain ⟨P, h1, h2, h3, -⟩ := key n
  have := nodup_leN n P h2 h3
  omega
theorem snd_len {g : List Eg} {m : Nat} {L C : List Nat} (hn : Bln g m) (hO : OrdL g m L) (hc : ∀ u, ¬ Fre g m L u) (hC : CycA g m C) : L.length = m ↔ C.length = 0 := by
  constructor
  · intro h
    rcases hC with ⟨rfl, -⟩ | ⟨a, K, ha, -, hM, -, -⟩
    · rfl
    · exact absurd ⟨K, hM.1⟩ (hO.acyc (hO.all h ha))
  · intro h
    have hno : ∀ v, v < m → ¬ Rch g v v := by
      rcases hC with ⟨-, q⟩ | ⟨a, K, -, -, -, hI, -⟩
      · exact q
      · have := hI.pos; omega
    exact Nat.le_antisymm hO.len (all_le m L (fun v hv => Classical.byContradiction fun q => back_cycle hn hno hc hv q))
theorem snd_ok {g : List Eg} {m : Nat} {L C : List Nat} (hn : Bln g m) (hO : OrdL g m L) (hc : ∀ u, ¬ Fre g m L u) (hC : CycA g m C) {ok : Bool} (h : ok = decide (L.length = m)) : (((L.length : Nat) : Int) == (m : Int)) = ok ∧ (L.length == m) = ok ∧ (((C.length : Nat) : Int) == 0) = ok ∧ (C.length == 0) = ok := by
  have q := snd_len hn hO hc hC
  by_cases e : L.length = m
  · obtain rfl : ok = true := by rw [h]; exact decide_eq_true e
    have e2 := q.1 e
    exact ⟨beq_iff_eq.2 (by omega), beq_iff_eq.2 e, beq_iff_eq.2 (by omega), beq_iff_eq.2 e2⟩
  · obtain rfl : ok = false := by rw [h]; exact decide_eq_false e
    have e2 : C.length ≠ 0 := fun q2 => e (q.2 q2)
    exact ⟨beq_eq_false_iff_ne.2 (by omega), beq_eq_false_iff_ne.2 e, beq_eq_false_iff_ne.2 (by omega), beq_eq_false_iff_ne.2 e2⟩
/-- By node: its place, so far. -/
structure PoI (L : List Nat) (m i : Nat) (A : Nat → Nat) : Prop where
  a : ∀ j, j < i → A (L.getD j 0) = j
  b : ∀ v, v < m → (∀ j, j < i → L.getD j 0 ≠ v) → A v = m
theorem PoI.start (L : List Nat) (m : Nat) {A : Nat → Nat} (h : ∀ v, v < m → A v = m) : PoI L m 0 A := ⟨fun j hj => absurd hj (Nat.not_lt_zero j), fun v hv _ => h v hv⟩
theorem PoI.next {L : List Nat} {m i : Nat} {A : Nat → Nat} (h : PoI L m i A) (hnd : L.Nodup) (hi : i < L.length) (hlt : L.getD i 0 < m) : A (L.getD i 0) = m ∧ PoI L m (i + 1) (upD A (L.getD i 0) i) := by
  have hne : ∀ j, j < i → L.getD j 0 ≠ L.getD i 0 := fun j hj e => by
    have := getD_inj hnd (by omega) hi e
    omega
  refine ⟨h.b _ hlt hne, fun j hj => ?_, fun v hv q => ?_⟩
  · unfold upD
    by_cases e : j = i
    · rw [e, if_pos rfl]
    · rw [if_neg (hne j (by omega))]
      exact h.a j (by omega)
  · unfold upD
    rw [if_neg (fun e : v = L.getD i 0 => q i (Nat.lt_succ_self i) e.symm)]
    exact h.b v hv (fun j hj => q j (by omega))
theorem PoI.lt {L : List Nat} {m : Nat} {A : Nat → Nat} (h : PoI L m L.length A) {v : Nat} (hv : v < m) (hl : A v < m) : A v < L.length ∧ L.getD (A v) 0 = v := by
  by_cases q : v ∈ L
  · obtain ⟨j, hj, e⟩ := getD_at q
    have := h.a j hj
    rw [e] at this
    rw [this]
    exact ⟨hj, e⟩
  · have := h.b v hv (fun j hj e => q (by rw [← e]; exact getD_memN hj))
    omega
theorem PoI.le {L : List Nat} {m : Nat} {A : Nat → Nat} (h : PoI L m L.length A) (hL : L.length ≤ m) {v : Nat} (hv : v < m) : A v ≤ m := by
  by_cases q : v ∈ L
  · obtain ⟨j, hj, e⟩ := getD_at q
    have := h.a j hj
    rw [e] at this
    omega
  · exact Nat.le_of_eq (h.b v hv (fun j hj e => q (by rw [← e]; exact getD_memN hj)))
theorem PoI.edge {g : List Eg} {L : List Nat} {m : Nat} {A : Nat → Nat} (h : PoI L m L.length A) (hO : OrdL g m L) (hn : Bln g m) {e : Eg} (he : e ∈ g) (ht : A e.t < m) : A e.f < A e.t := by
  obtain ⟨h1, h2⟩ := h.lt (hn e he).2 ht
  obtain ⟨i, hi, q⟩ := hO.pos he h1 h2.symm
  have := h.a i (by omega)
  rw [q] at this
  omega
def upI (B : Nat → Int) (x : Nat) (k : Int) : Nat → Int := fun v => if v = x then k else B v
/-- By node: the last place of one that leads to it, so far. -/
structure LaI (g : List Eg) (m : Nat) (A : Nat → Nat) (B : Nat → Int) : Prop where
  a : ∀ e ∈ g, (A e.f : Int) ≤ B e.t
  b : ∀ v, v < m → -1 ≤ B v ∧ B v ≤ (m : Int)
theorem LaI.start (m : Nat) (A : Nat → Nat) {B : Nat → Int} (h : ∀ v, v < m → B v = -1) : LaI [] m A B := ⟨(fun e he => by cases he), fun v hv => by rw [h v hv]; omega⟩
theorem LaI.stay {g : List Eg} {m : Nat} {A : Nat → Nat} {B : Nat → Int} (h : LaI g m A B) {c : Eg} (hc : (A c.f : Int) ≤ B c.t) : LaI (g ++ [c]) m A B := ⟨fun e he => by
  rcases List.mem_append.1 he with he | he
  · exact h.a e he
  · simp at he; subst he; exact hc, h.b⟩
theorem LaI.up {g : List Eg} {m : Nat} {A : Nat → Nat} {B : Nat → Int} (h : LaI g m A B) {c : Eg} (hc : B c.t < (A c.f : Int)) (hA : A c.f ≤ m) : LaI (g ++ [c]) m A (upI B c.t (A c.f : Int)) := ⟨fun e he => by
  unfold upI
  rcases List.mem_append.1 he with he | he
  · have := h.a e he
    split
    · next q => rw [q] at this; omega
    · exact this
  · simp at he; subst he; rw [if_pos rfl]; exact Int.le_refl _, fun v hv => by
  unfold upI
  split
  · omega
  · exact h.b v hv⟩
theorem LaI.out {g : List Eg} {m : Nat} {A : Nat → Nat} {B : Nat → Int} {L : List Nat} (h : LaI g m A B) (hA : PoI L m L.length A) (hO : OrdL g m L) (hc : ∀ u, ¬ Fre g m L u) (hn : Bln g m) {v : Nat} (hv : v < m) (hm : A v = m) : (m : Int) ≤ B v := by
  have hL := hO.len
  have hvL : v ∉ L := fun q => by
    obtain ⟨j, hj, e⟩ := getD_at q
    have := hA.a j hj
    rw [e] at this
    omega
  have hcv := hc v
  obtain ⟨e, he, q1, q2⟩ : ∃ e ∈ g, e.t = v ∧ e.f ∉ L := Classical.byContradiction fun q => hcv ⟨hv, hvL, fun e he q1 => Classical.byContradiction fun q2 => q ⟨e, he, q1, q2⟩⟩
  have h1 := hA.b e.f (hn e he).1 (fun j hj e2 => q2 (by rw [← e2]; exact getD_memN hj))
  have h2 := h.a e he
  rw [h1, q1] at h2
  exact h2
theorem LaI.next {g : List Eg} {m : Nat} {A : Nat → Nat} {B : Nat → Int} {L : List Nat} (h : LaI g m A B) (hA : PoI L m L.length A) (hO : OrdL g m L) (hn : Bln g m) {v i : Nat} (hv : v < m) (hi : B v < (i : Int)) (hiA : i < A v) (hil : i < L.length) : L.getD i 0 ≤ v := by
  have hL := hO.len
  refine (hO.drop_at hil).2 v ⟨hv, fun q => ?_, fun e he q => ?_⟩
  · obtain ⟨j, h1, h2, e⟩ := mem_take_at q
    have := hA.a j h2
    rw [e] at this
    omega
  · have h1 := h.a e he
    rw [q] at h1
    have h2 : A e.f < i := by omega
    obtain ⟨h3, h4⟩ := hA.lt (hn e he).1 (by omega)
    rw [← h4]
    exact take_mem_at h2 h3
end Go.Proofs.Ytfbbllokpikbiab
