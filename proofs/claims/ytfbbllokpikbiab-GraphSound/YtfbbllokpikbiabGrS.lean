import Derived.Test.YtfbbllokpikbiabGrR
namespace Go.Proofs.Ytfbbllokpikbiab
/-- Edges lead there, or it is the same. -/
def Rs (g : List Eg) (u v : Nat) : Prop := u = v ∨ Rch g u v
theorem Pth.join {g : List Eg} {k l u v x : Nat} (h : Pth g k u v) (h' : Pth g l v x) : Pth g (k + l) u x := by
  induction h with
  | one e he => rw [Nat.add_comm]; exact .more e he h'
  | @more k b e he _ ih => rw [Nat.add_right_comm]; exact .more e he (ih h')
theorem Rch.trans {g : List Eg} {u v x : Nat} (h : Rch g u v) (h' : Rch g v x) : Rch g u x := by
  obtain ⟨k, h⟩ := h
  obtain ⟨l, h'⟩ := h'
  exact ⟨k + l, h.join h'⟩
theorem Rs.refl (g : List Eg) (u : Nat) : Rs g u u := .inl rfl
theorem Rs.trans {g : List Eg} {u v x : Nat} (h : Rs g u v) (h' : Rs g v x) : Rs g u x := by
  rcases h with rfl | h
  · exact h'
  · rcases h' with rfl | h'
    · exact .inr h
    · exact .inr (h.trans h')
theorem Rs.ld {g : List Eg} {u t : Nat} (h : t ∈ ldN g u) : Rs g u t := .inr (rch_ld h)
/-- What is closed under edges is not left. -/
theorem Rs.closed {g : List Eg} {S : Nat → Prop} (hS : ∀ u, S u → ∀ t ∈ ldN g u, S t) {u v : Nat} (h : Rs g u v) (hu : S u) : S v := by
  rcases h with rfl | ⟨k, h⟩
  · exact hu
  · induction h with
    | one e he => exact hS _ hu _ (mem_ldN.2 ⟨e, he, rfl, rfl⟩)
    | more e he _ ih => exact ih (hS _ hu _ (mem_ldN.2 ⟨e, he, rfl, rfl⟩))
/-- The two belong to one part. -/
def SC (g : List Eg) (u v : Nat) : Prop := Rs g u v ∧ Rs g v u
/-- The parts that were told, the trail, and how far back each node leads. -/
structure TS (g : List Eg) (n : Nat) (T : List Nat) (bk : Nat → Nat) (ps : List (List Nat)) : Prop where
  td : T.Nodup
  tn : ∀ u ∈ T, u < n
  tb : ∀ i, i < T.length → 1 ≤ bk (T.getD i 0) ∧ bk (T.getD i 0) ≤ i + 1 ∧ Rs g (T.getD i 0) (T.getD (bk (T.getD i 0) - 1) 0)
  bt : ∀ u, u < n → bk u = 0 ∨ u ∈ T ∨ bk u = n + 1
  cl : ∀ u, u < n → bk u = n + 1 → ∀ t ∈ ldN g u, bk t = n + 1
  p0 : ∀ p ∈ ps, p ≠ [] ∧ p.Pairwise (· < ·) ∧ ∀ x ∈ p, x < n
  p1 : ∀ p ∈ ps, ∀ x ∈ p, ∀ y, y < n → (y ∈ p ↔ SC g x y)
  p2 : ∀ u, u < n → (bk u = n + 1 ↔ ∃ p ∈ ps, u ∈ p)
  p3 : ps.Pairwise (fun p q => ∀ u ∈ p, u ∉ q)
theorem getD_at {T : List Nat} {u : Nat} (h : u ∈ T) : ∃ i, i < T.length ∧ T.getD i 0 = u := by
  obtain ⟨i, hi, e⟩ := List.getElem_of_mem h
  exact ⟨i, hi, by rw [List.getD_eq_getElem?_getD, List.getElem?_eq_getElem hi]; exact e⟩
theorem getD_appL {T R : List Nat} {i : Nat} (h : i < T.length) : (T ++ R).getD i 0 = T.getD i 0 := by
  rw [List.getD_eq_getElem?_getD, List.getElem?_append_left h, ← List.getD_eq_getElem?_getD]
theorem getD_appR {T R : List Nat} {x : Nat} : (T ++ x :: R).getD T.length 0 = x := by
  rw [List.getD_eq_getElem?_getD, List.getElem?_append_right (Nat.le_refl _), Nat.sub_self]; rfl
theorem getD_inj {T : List Nat} (h : T.Nodup) {i j : Nat} (hi : i < T.length) (hj : j < T.length) (e : T.getD i 0 = T.getD j 0) : i = j := by
  rw [List.getD_eq_getElem?_getD, List.getD_eq_getElem?_getD, List.getElem?_eq_getElem hi, List.getElem?_eq_getElem hj] at e
  have e : T[i] = T[j] := e
  have hp := List.pairwise_iff_getElem.1 h
  rcases Nat.lt_trichotomy i j with c | c | c
  · exact absurd e (hp i j hi hj c)
  · exact c
  · exact absurd e.symm (hp j i hj hi c)
section
variable {g : List Eg} {n : Nat} {T : List Nat} {bk : Nat → Nat} {ps : List (List Nat)}
theorem TS.len (h : TS g n T bk ps) : T.length ≤ n := nodup_leN n T h.td h.tn
theorem TS.le (h : TS g n T bk ps) {u : Nat} (hu : u ∈ T) : 1 ≤ bk u ∧ bk u ≤ n := by
  obtain ⟨i, hi, rfl⟩ := getD_at hu
  have := h.tb i hi
  have := h.len
  omega
/-- A new node on the trail. -/
theorem TS.push (h : TS g n T bk ps) {x : Nat} (hx : x < n) (h0 : bk x = 0) : TS g n (T ++ [x]) (upD bk x (T.length + 1)) ps := by
  have hxT : x ∉ T := fun e => by have := (h.le e).1; omega
  have hl : T.length + 1 ≤ n := by
    have := nodup_leN n (T ++ [x]) (by rw [List.nodup_append]; exact ⟨h.td, by simp, fun a ha b hb => by simp at hb; subst hb; exact fun e => hxT (e ▸ ha)⟩) (fun u hu => by
      rcases List.mem_append.1 hu with hu | hu
      · exact h.tn u hu
      · simp at hu; omega)
    rw [List.length_append] at this
    exact this
  have ne : ∀ u, u ≠ x → upD bk x (T.length + 1) u = bk u := fun u e => by unfold upD; rw [if_neg e]
  have eq : upD bk x (T.length + 1) x = T.length + 1 := by unfold upD; rw [if_pos rfl]
  have told : ∀ u, upD bk x (T.length + 1) u = n + 1 ↔ bk u = n + 1 := fun u => by
    by_cases e : u = x
    · rw [e, eq, h0]; omega
    · rw [ne u e]
  refine ⟨by rw [List.nodup_append]; exact ⟨h.td, by simp, fun a ha b hb => by simp at hb; subst hb; exact fun e => hxT (e ▸ ha)⟩, fun u hu => ?_, fun i hi => ?_, fun u hu => ?_, fun u hu h1 t ht => (told t).2 (h.cl u hu ((told u).1 h1) t ht), h.p0, h.p1, fun u hu => (told u).trans (h.p2 u hu), h.p3⟩
  · rcases List.mem_append.1 hu with hu | hu
    · exact h.tn u hu
    · simp at hu; omega
  · by_cases e : i < T.length
    · have hm : T.getD i 0 ∈ T := getD_memN e
      have hne : T.getD i 0 ≠ x := fun q => hxT (q ▸ hm)
      have hb := h.tb i e
      rw [getD_appL e, ne _ hne, getD_appL (by omega)]
      exact hb
    · have hi2 : i = T.length := by rw [List.length_append] at hi; simp at hi; omega
      subst hi2
      rw [getD_appR, eq, Nat.add_sub_cancel, getD_appR]
      exact ⟨by omega, Nat.le_refl _, Rs.refl _ _⟩
  · by_cases e : u = x
    · exact .inr (.inl (by rw [e]; simp))
    · rw [ne u e]
      rcases h.bt u hu with q | q | q
      · exact .inl q
      · exact .inr (.inl (List.mem_append_left _ q))
      · exact .inr (.inr q)
/-- A node on the trail leads further back. -/
theorem TS.low (h : TS g n T bk ps) {i b : Nat} (hi : i < T.length) (h1 : 1 ≤ b) (h2 : b ≤ i + 1) (h3 : Rs g (T.getD i 0) (T.getD (b - 1) 0)) : TS g n T (upD bk (T.getD i 0) b) ps := by
  have hm : T.getD i 0 ∈ T := getD_memN hi
  have hle := h.le hm
  have hlen := h.len
  have ne : ∀ u, u ≠ T.getD i 0 → upD bk (T.getD i 0) b u = bk u := fun u e => by unfold upD; rw [if_neg e]
  have eq : upD bk (T.getD i 0) b (T.getD i 0) = b := by unfold upD; rw [if_pos rfl]
  have told : ∀ u, upD bk (T.getD i 0) b u = n + 1 ↔ bk u = n + 1 := fun u => by
    by_cases e : u = T.getD i 0
    · rw [e, eq]; omega
    · rw [ne u e]
  refine ⟨h.td, h.tn, fun j hj => ?_, fun u hu => ?_, fun u hu q t ht => (told t).2 (h.cl u hu ((told u).1 q) t ht), h.p0, h.p1, fun u hu => (told u).trans (h.p2 u hu), h.p3⟩
  · by_cases e : T.getD j 0 = T.getD i 0
    · have := getD_inj h.td hj hi e
      subst this
      rw [eq]
      exact ⟨h1, h2, h3⟩
    · rw [ne _ e]
      exact h.tb j hj
  · by_cases e : u = T.getD i 0
    · exact .inr (.inl (e ▸ hm))
    · rw [ne u e]
      exact h.bt u hu
end
/-- All of a node's edges lead to what was told, or no further back than B. -/
def Edg (n : Nat) (T : List Nat) (bk : Nat → Nat) (B t : Nat) : Prop := bk t = n + 1 ∨ ∃ j, j < T.length ∧ T.getD j 0 = t ∧ B ≤ j + 1
/-- Within a node's edges: its trail is T0, the node, R. -/
structure WJ (g : List Eg) (n : Nat) (T0 : List Nat) (bk0 : Nat → Nat) (x : Nat) (i : Nat) (R : List Nat) (bk : Nat → Nat) (ps : List (List Nat)) (B : Nat) : Prop where
  s : TS g n (T0 ++ x :: R) bk ps
  k0 : ∀ u, u < n → bk0 u ≠ 0 → bk u = bk0 u
  c : ∀ y ∈ R, Rs g x y
  d : ∀ j, T0.length < j → j < (T0 ++ x :: R).length → ∃ k, k < j ∧ Rs g ((T0 ++ x :: R).getD j 0) ((T0 ++ x :: R).getD k 0)
  e : ∀ y ∈ R, ∀ t ∈ ldN g y, Edg n (T0 ++ x :: R) bk B t
  e2 : ∀ t ∈ (ldN g x).take i, Edg n (T0 ++ x :: R) bk B t
/-- What a walk leaves. -/
structure WP (g : List Eg) (n : Nat) (T0 : List Nat) (bk0 : Nat → Nat) (x : Nat) (T1 : List Nat) (bk : Nat → Nat) (ps : List (List Nat)) : Prop where
  s : TS g n (T0 ++ T1) bk ps
  k0 : ∀ u, u < n → bk0 u ≠ 0 → bk u = bk0 u
  m : bk x ≠ 0
  h : T1 = [] ∨ ∃ R, T1 = x :: R
  c : ∀ y ∈ T1, Rs g x y
  d : ∀ j, T0.length ≤ j → j < (T0 ++ T1).length → ∃ k, k < j ∧ Rs g ((T0 ++ T1).getD j 0) ((T0 ++ T1).getD k 0)
  e : ∀ y ∈ T1, ∀ t ∈ ldN g y, Edg n (T0 ++ T1) bk (bk x) t
  f : T1 ≠ [] → bk x ≤ T0.length
theorem Edg.mono {n : Nat} {T : List Nat} {bk : Nat → Nat} {B B' t : Nat} (h : Edg n T bk B t) (hb : B' ≤ B) : Edg n T bk B' t := h.imp id (fun ⟨j, h1, h2, h3⟩ => ⟨j, h1, h2, by omega⟩)
theorem WJ.mono {g : List Eg} {n : Nat} {T0 : List Nat} {bk0 : Nat → Nat} {x i : Nat} {R : List Nat} {bk : Nat → Nat} {ps : List (List Nat)} {B B' : Nat} (h : WJ g n T0 bk0 x i R bk ps B) (hb : B' ≤ B) : WJ g n T0 bk0 x i R bk ps B' :=
  ⟨h.s, h.k0, h.c, h.d, fun y hy t ht => (h.e y hy t ht).mono hb, fun t ht => (h.e2 t ht).mono hb⟩
theorem WJ.start {g : List Eg} {n : Nat} {T0 : List Nat} {bk0 : Nat → Nat} {x : Nat} {ps : List (List Nat)} (h : TS g n T0 bk0 ps) (hx : x < n) (h0 : bk0 x = 0) : WJ g n T0 bk0 x 0 [] (upD bk0 x (T0.length + 1)) ps (upD bk0 x (T0.length + 1) x) :=
  ⟨h.push hx h0, fun u _ hu => by unfold upD; rw [if_neg (fun e : u = x => hu (by rw [e]; exact h0))], (fun y hy => by cases hy), (fun j h1 h2 => by rw [List.length_append] at h2; simp at h2; omega), (fun y hy => by cases hy), fun t ht => by simp at ht⟩
section
variable {g : List Eg} {n : Nat} {T0 : List Nat} {bk0 : Nat → Nat} {x i : Nat} {R : List Nat} {bk : Nat → Nat} {ps : List (List Nat)} {B : Nat}
theorem WJ.at (_ : WJ g n T0 bk0 x i R bk ps B) : (T0 ++ x :: R).getD T0.length 0 = x := getD_appR
theorem WJ.lenx (_ : WJ g n T0 bk0 x i R bk ps B) : T0.length < (T0 ++ x :: R).length := by rw [List.length_append]; simp
theorem WJ.bx (h : WJ g n T0 bk0 x i R bk ps B) : 1 ≤ bk x ∧ bk x ≤ T0.length + 1 ∧ Rs g x ((T0 ++ x :: R).getD (bk x - 1) 0) := by
  have := h.s.tb T0.length h.lenx
  rw [h.at] at this
  exact this
theorem WJ.xlt (h : WJ g n T0 bk0 x i R bk ps B) : x < n := h.s.tn x (by simp)
/-- An edge was gone along: to a node that was met. -/
theorem WJ.met (h : WJ g n T0 bk0 x i R bk ps (min (bk x) (bk ((ldN g x).getD i 0)))) (hi : i < (ldN g x).length) (ht : (ldN g x).getD i 0 < n) (hm : bk ((ldN g x).getD i 0) ≠ 0) (hx0 : bk0 x = 0) : WJ g n T0 bk0 x (i + 1) R (upD bk x (min (bk x) (bk ((ldN g x).getD i 0)))) ps (upD bk x (min (bk x) (bk ((ldN g x).getD i 0))) x) := by
  have hmem := getD_memN hi
  have htk := take_nextN hi
  generalize (ldN g x).getD i 0 = t at *
  obtain ⟨b1, b2, b3⟩ := h.bx
  have hlen := h.s.len
  have hlx := h.lenx
  have hb : 1 ≤ min (bk x) (bk t) ∧ min (bk x) (bk t) ≤ T0.length + 1 ∧ Rs g x ((T0 ++ x :: R).getD (min (bk x) (bk t) - 1) 0) := by
    refine ⟨by omega, by omega, ?_⟩
    rcases h.s.bt t ht with q | q | q
    · exact absurd q hm
    · obtain ⟨j, hj, e⟩ := getD_at q
      have := h.s.tb j hj
      rw [e] at this
      by_cases c : bk x ≤ bk t
      · rw [Nat.min_eq_left c]; exact b3
      · rw [Nat.min_eq_right (by omega)]; exact (Rs.ld hmem).trans this.2.2
    · rw [Nat.min_eq_left (by omega)]; exact b3
  have hat := h.at
  have hs := h.s.low (i := T0.length) (b := min (bk x) (bk t)) h.lenx hb.1 hb.2.1 (by rw [hat]; exact hb.2.2)
  rw [hat] at hs
  have eq : upD bk x (min (bk x) (bk t)) x = min (bk x) (bk t) := by unfold upD; rw [if_pos rfl]
  have ne : ∀ u, u ≠ x → upD bk x (min (bk x) (bk t)) u = bk u := fun u e => by unfold upD; rw [if_neg e]
  have edg : ∀ u, Edg n (T0 ++ x :: R) bk (min (bk x) (bk t)) u → Edg n (T0 ++ x :: R) (upD bk x (min (bk x) (bk t))) (min (bk x) (bk t)) u := fun u q => by
    rcases q with q | q
    · exact .inl (by rw [ne u (fun e => by rw [e] at q; omega)]; exact q)
    · exact .inr q
  rw [eq]
  refine ⟨hs, fun u hu q => ?_, h.c, h.d, fun y hy u hu => edg u (h.e y hy u hu), fun u hu => ?_⟩
  · rw [ne u (fun e => q (e ▸ hx0))]; exact h.k0 u hu q
  · rw [htk] at hu
    rcases List.mem_append.1 hu with hu | hu
    · exact edg u (h.e2 u hu)
    · simp only [List.mem_singleton] at hu
      subst hu
      refine edg u ?_
      rcases h.s.bt u ht with q | q | q
      · exact absurd q hm
      · obtain ⟨j, hj, e⟩ := getD_at q
        have := h.s.tb j hj
        rw [e] at this
        exact .inr ⟨j, hj, e, by omega⟩
      · exact .inl q
/-- An edge was gone along: to a node that was walked from. -/
theorem WJ.walk (hB : Bln g n) (h : WJ g n T0 bk0 x i R bk ps (bk x)) {t : Nat} (hxt : t ∈ ldN g x) {T1 : List Nat} {bk' : Nat → Nat} {ps' : List (List Nat)} (hw : WP g n (T0 ++ x :: R) bk t T1 bk' ps') : WJ g n T0 bk0 x i (R ++ T1) bk' ps' (min (bk' x) (bk' t)) := by
  have e0 : T0 ++ x :: R ++ T1 = T0 ++ x :: (R ++ T1) := by simp
  have hxn := h.xlt
  have hbx := h.bx
  have ltn : ∀ y t, t ∈ ldN g y → t < n := fun y t h => by obtain ⟨e, he, -, rfl⟩ := mem_ldN.1 h; exact (hB e he).2
  have kx : bk' x = bk x := hw.k0 x hxn (by omega)
  have hws := hw.s
  have hwd := hw.d
  have hwe := hw.e
  rw [e0] at hws hwd hwe
  have old : ∀ u, u < n → Edg n (T0 ++ x :: R) bk (bk x) u → Edg n (T0 ++ x :: (R ++ T1)) bk' (min (bk' x) (bk' t)) u := fun u hu q => by
    rcases q with q | ⟨j, h1, h2, h3⟩
    · exact .inl (by rw [hw.k0 u hu (by omega)]; exact q)
    · exact .inr ⟨j, by rw [← e0, List.length_append]; omega, by rw [← e0, getD_appL h1]; exact h2, by omega⟩
  refine ⟨hws, fun u hu q => ?_, fun y hy => ?_, fun j h1 h2 => ?_, fun y hy u hu => ?_, fun u hu => old u (ltn x u (List.mem_of_mem_take hu)) (h.e2 u hu)⟩
  · have := h.k0 u hu q
    rw [hw.k0 u hu (by omega)]; exact this
  · rcases List.mem_append.1 hy with hy | hy
    · exact h.c y hy
    · exact (Rs.ld hxt).trans (hw.c y hy)
  · by_cases hj : j < (T0 ++ x :: R).length
    · obtain ⟨k, hk, q⟩ := h.d j h1 hj
      refine ⟨k, hk, ?_⟩
      rw [← e0, getD_appL (T := T0 ++ x :: R) hj, getD_appL (T := T0 ++ x :: R) (i := k) (by omega)]
      exact q
    · exact hwd j (by omega) h2
  · rcases List.mem_append.1 hy with hy | hy
    · exact old u (ltn y u hu) (h.e y hy u hu)
    · exact (hwe y hy u hu).mono (by omega)
/-- The node leads back ahead of itself. -/
theorem WJ.stay (h : WJ g n T0 bk0 x i R bk ps (bk x)) (hi : (ldN g x).length ≤ i) (hl : bk x ≤ T0.length) : WP g n T0 bk0 x (x :: R) bk ps := by
  have hbx := h.bx
  have he2 := h.e2
  rw [List.take_of_length_le hi] at he2
  refine ⟨h.s, h.k0, by omega, .inr ⟨R, rfl⟩, fun y hy => ?_, fun j h1 h2 => ?_, fun y hy t ht => ?_, fun _ => hl⟩
  · rcases List.mem_cons.1 hy with rfl | hy
    · exact Rs.refl _ _
    · exact h.c y hy
  · by_cases e : j = T0.length
    · subst e
      rw [h.at]
      exact ⟨bk x - 1, by omega, hbx.2.2⟩
    · exact h.d j (by omega) h2
  · rcases List.mem_cons.1 hy with rfl | hy
    · exact he2 t ht
    · exact h.e y hy t ht
/-- The node's part is told. -/
theorem WJ.tell (hB : Bln g n) (h : WJ g n T0 bk0 x i R bk ps (bk x)) (hi : (ldN g x).length ≤ i) (hl : bk x = T0.length + 1) (hb0 : ∀ u, u < n → bk0 u ≠ 0 → u ∈ T0 ∨ bk0 u = n + 1) {p : List Nat} (hp : p.Perm (x :: R)) (hps : p.Pairwise (· < ·)) {bk' : Nat → Nat} (hb1 : ∀ u ∈ x :: R, bk' u = n + 1) (hb2 : ∀ u, u ∉ x :: R → bk' u = bk u) : WP g n T0 bk0 x [] bk' (ps ++ [p]) := by
  have he2 := h.e2
  rw [List.take_of_length_le hi] at he2
  have hnd := h.s.td
  rw [List.nodup_append] at hnd
  obtain ⟨hn1, hn2, hn3⟩ := hnd
  have hlen := h.s.len
  have ltn : ∀ y t, t ∈ ldN g y → t < n := fun y t h => by obtain ⟨e, he, -, rfl⟩ := mem_ldN.1 h; exact (hB e he).2
  have hT : ∀ u ∈ x :: R, u ∈ T0 ++ x :: R := fun u hu => List.mem_append_right _ hu
  have hno : ∀ u ∈ x :: R, bk u ≠ n + 1 := fun u hu e => by have := (h.s.le (hT u hu)).2; omega
  have idx : ∀ j, T0.length ≤ j → j < (T0 ++ x :: R).length → (T0 ++ x :: R).getD j 0 ∈ x :: R := fun j h1 h2 => by
    rw [List.getD_eq_getElem?_getD, List.getElem?_append_right h1]
    rw [List.length_append] at h2
    rw [List.getElem?_eq_getElem (by omega)]
    exact List.getElem_mem _
  have cl : ∀ u, (u ∈ x :: R ∨ (bk u = n + 1 ∧ u < n)) → ∀ t ∈ ldN g u, (t ∈ x :: R ∨ (bk t = n + 1 ∧ t < n)) := by
    rintro u (hu | ⟨hu, hun⟩) t ht
    · have q : Edg n (T0 ++ x :: R) bk (bk x) t := by
        rcases List.mem_cons.1 hu with rfl | hu
        · exact he2 t ht
        · exact h.e u hu t ht
      rcases q with q | ⟨j, h1, rfl, h3⟩
      · exact .inr ⟨q, ltn u t ht⟩
      · exact .inl (idx j (by omega) h1)
    · exact .inr ⟨h.s.cl u hun hu t ht, ltn u t ht⟩
  have back : ∀ j, T0.length ≤ j → j < (T0 ++ x :: R).length → Rs g ((T0 ++ x :: R).getD j 0) x := by
    intro j
    induction j using Nat.strongRecOn with
    | ind j ih =>
      intro h1 h2
      by_cases e : j = T0.length
      · subst e
        rw [h.at]
        exact Rs.refl _ _
      · obtain ⟨k, hk, hr⟩ := h.d j (by omega) h2
        have hm : (T0 ++ x :: R).getD k 0 ∈ T0 ++ x :: R := getD_memN (by omega)
        rcases Rs.closed cl hr (.inl (idx j h1 h2)) with q | ⟨q, -⟩
        · by_cases c : k < T0.length
          · rw [getD_appL c] at q
            exact absurd rfl (hn3 _ (getD_memN c) _ q)
          · exact hr.trans (ih k hk (by omega) (by omega))
        · have := (h.s.le hm).2
          omega
  have backm : ∀ y ∈ x :: R, Rs g y x := fun y hy => by
    obtain ⟨j, hj, rfl⟩ := getD_at (hT y hy)
    by_cases c : j < T0.length
    · rw [getD_appL c] at hy
      exact absurd rfl (hn3 _ (getD_memN c) _ hy)
    · exact back j (by omega) hj
  have forth : ∀ y ∈ x :: R, Rs g x y := fun y hy => by
    rcases List.mem_cons.1 hy with rfl | hy
    · exact Rs.refl _ _
    · exact h.c y hy
  have told : ∀ u, bk' u = n + 1 ↔ (u ∈ x :: R ∨ bk u = n + 1) := fun u => by
    by_cases hu : u ∈ x :: R
    · simp [hb1 u hu, hu]
    · rw [hb2 u hu]; simp [hu]
  have nT0 : ∀ u ∈ T0, u ∉ x :: R := fun u hu hm => hn3 u hu u hm rfl
  have hpm : ∀ u, u ∈ p ↔ u ∈ x :: R := fun u => hp.mem_iff
  have xin : ∀ u ∈ x :: R, u < n := fun u hu => h.s.tn u (hT u hu)
  refine ⟨?_, fun u hu q => ?_, by rw [hb1 x (by simp)]; omega, .inl rfl, (fun y hy => by cases hy), (fun j h1 h2 => by simp at h2; omega), (fun y hy => by cases hy), fun q => absurd rfl q⟩
  · rw [List.append_nil]
    refine ⟨hn1, fun u hu => h.s.tn u (List.mem_append_left _ hu), fun j hj => ?_, fun u hu => ?_, fun u hu q t ht => ?_, fun q hq => ?_, fun q hq y hy z hz => ?_, fun u hu => ?_, ?_⟩
    · have hb := h.s.tb j (by rw [List.length_append]; omega)
      rw [getD_appL hj] at hb
      rw [hb2 _ (nT0 _ (getD_memN hj))]
      rw [getD_appL (T := T0) (i := bk (T0.getD j 0) - 1) (by omega)] at hb
      exact hb
    · by_cases hm : u ∈ x :: R
      · exact .inr (.inr (hb1 u hm))
      · rw [hb2 u hm]
        rcases h.s.bt u hu with q | q | q
        · exact .inl q
        · rcases List.mem_append.1 q with q | q
          · exact .inr (.inl q)
          · exact absurd q hm
        · exact .inr (.inr q)
    · refine (told t).2 ?_
      rcases cl u (((told u).1 q).imp id (fun e => ⟨e, hu⟩)) t ht with r | ⟨r, -⟩
      · exact .inl r
      · exact .inr r
    · rcases List.mem_append.1 hq with hq | hq
      · exact h.s.p0 q hq
      · simp only [List.mem_singleton] at hq
        subst hq
        exact ⟨(fun e => by have := (hpm x).2 (by simp); rw [e] at this; cases this), hps, fun u hu => xin u ((hpm u).1 hu)⟩
    · rcases List.mem_append.1 hq with hq | hq
      · exact h.s.p1 q hq y hy z hz
      · simp only [List.mem_singleton] at hq
        subst hq
        rw [hpm] at hy ⊢
        constructor
        · intro hz'
          exact ⟨(backm y hy).trans (forth z hz'), (backm z hz').trans (forth y hy)⟩
        · rintro ⟨s1, s2⟩
          rcases Rs.closed cl s1 (.inl hy) with r | ⟨r, -⟩
          · exact r
          · have := Rs.closed (S := fun u => bk u = n + 1 ∧ u < n) (fun u hu t ht => ⟨h.s.cl u hu.2 hu.1 t ht, ltn u t ht⟩) s2 ⟨r, hz⟩
            exact absurd this.1 (hno y hy)
    · rw [told]
      constructor
      · rintro (q | q)
        · exact ⟨p, by simp, (hpm u).2 q⟩
        · obtain ⟨q1, h1, h2⟩ := (h.s.p2 u hu).1 q
          exact ⟨q1, List.mem_append_left _ h1, h2⟩
      · rintro ⟨q1, h1, h2⟩
        rcases List.mem_append.1 h1 with h1 | h1
        · exact .inr ((h.s.p2 u hu).2 ⟨q1, h1, h2⟩)
        · simp only [List.mem_singleton] at h1
          subst h1
          exact .inl ((hpm u).1 h2)
    · rw [List.pairwise_append]
      refine ⟨h.s.p3, by simp, fun q hq q' hq' u hu hu' => ?_⟩
      simp only [List.mem_singleton] at hq'
      subst hq'
      have hm := (hpm u).1 hu'
      exact hno u hm ((h.s.p2 u (xin u hm)).2 ⟨q, hq, hu⟩)
  · have hbu := h.k0 u hu q
    rw [hb2 u (fun hm => ?_)]
    · exact hbu
    · rcases hb0 u hu q with r | r
      · exact nT0 u r hm
      · rw [r] at hbu
        exact hno u hm hbu
end
theorem TS.start (g : List Eg) (n : Nat) : TS g n [] (fun _ => 0) [] :=
  ⟨List.nodup_nil, (fun u hu => by cases hu), (fun i hi => by simp at hi), fun _ _ => .inl rfl, (fun u _ q => by simp at q), (fun p hp => by cases hp), (fun p hp => by cases hp), (fun u _ => by simp), List.Pairwise.nil⟩
theorem TS.met {g : List Eg} {n : Nat} {T : List Nat} {bk : Nat → Nat} {ps : List (List Nat)} (h : TS g n T bk ps) : ∀ u, u < n → bk u ≠ 0 → u ∈ T ∨ bk u = n + 1 := fun u hu q => (h.bt u hu).resolve_left q
/-- A walk from an empty trail tells all that it met. -/
theorem WP.none {g : List Eg} {n : Nat} {bk0 bk : Nat → Nat} {x : Nat} {T1 : List Nat} {ps : List (List Nat)} (h : WP g n [] bk0 x T1 bk ps) : T1 = [] := by
  rcases h.h with e | ⟨R, rfl⟩
  · exact e
  · have h1 := h.f (by simp)
    exact absurd (by simpa using h1) h.m
theorem TS.num {g : List Eg} {n : Nat} {T : List Nat} {bk : Nat → Nat} {ps : List (List Nat)} (h : TS g n T bk ps) : ps.length ≤ n := by
  have hd : ∀ p ∈ ps, p.headD 0 ∈ p := fun p hp => by
    cases p with
    | nil => exact absurd rfl (h.p0 [] hp).1
    | cons x p => simp
  have := nodup_leN n (ps.map (fun p => p.headD 0)) (List.pairwise_map.2 (h.p3.imp_of_mem (fun {a b} ha hb q e => q _ (hd a ha) (by rw [e]; exact hd b hb)))) (fun x hx => by
    obtain ⟨p, hp, rfl⟩ := List.mem_map.1 hx
    exact (h.p0 p hp).2.2 _ (hd p hp))
  rwa [List.length_map] at this
end Go.Proofs.Ytfbbllokpikbiab
