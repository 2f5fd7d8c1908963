import Derived.Test.YtfbbllokpikbiabGrZ
namespace Go.Proofs.Ytfbbllokpikbiab
/-- So many edges lead there, none if it is the node itself. -/
def P0 (g : List Eg) (k u b : Nat) : Prop := (k = 0 ∧ u = b) ∨ Pth g k u b
def Dst (g : List Eg) (a v k : Nat) : Prop := P0 g k v a ∧ ∀ j, P0 g j v a → k ≤ j
/-- The next node of a shortest cycle. -/
def NxN (g : List Eg) (a u k v : Nat) : Prop := (∃ e ∈ g, e.f = u ∧ e.t = v) ∧ Dst g a v k ∧ ∀ e ∈ g, e.f = u → Dst g a e.t k → v ≤ e.t
theorem NxN.one {g : List Eg} {a u k v v' : Nat} (h : NxN g a u k v) (h' : NxN g a u k v') : v = v' := by
  obtain ⟨⟨e, he, h1, h2⟩, h3, h4⟩ := h
  obtain ⟨⟨e', he', h1', h2'⟩, h3', h4'⟩ := h'
  have q1 := h4 e' he' h1' (by rw [h2']; exact h3')
  have q2 := h4' e he h1 (by rw [h2]; exact h3)
  omega
theorem P0.cons {g : List Eg} {k u b : Nat} {e : Eg} (he : e ∈ g) (hu : e.f = u) (h : P0 g k e.t b) : Pth g (k + 1) u b := by
  subst hu
  rcases h with ⟨rfl, h⟩ | h
  · rw [← h]; exact .one e he
  · exact .more e he h
theorem Pth.head {g : List Eg} {k u b : Nat} (h : Pth g k u b) : ∃ e ∈ g, e.f = u ∧ P0 g (k - 1) e.t b := by
  cases h with
  | one e h => exact ⟨e, h, rfl, .inl ⟨rfl, rfl⟩⟩
  | more e h h2 => exact ⟨e, h, rfl, .inr h2⟩
theorem Dst.zero {g : List Eg} {a k : Nat} (h : Dst g a a k) : k = 0 := by have := h.2 0 (.inl ⟨rfl, rfl⟩); omega
theorem Dst.at0 {g : List Eg} {a v : Nat} (h : Dst g a v 0) : v = a := by
  rcases h.1 with ⟨-, h⟩ | h
  · exact h
  · have := h.pos; omega
/-- The least number of edges, one at least. -/
def Mn (g : List Eg) (a u k : Nat) : Prop := Pth g k u a ∧ ∀ j, Pth g j u a → k ≤ j
theorem Mn.one {g : List Eg} {a u k k' : Nat} (h : Mn g a u k) (h' : Mn g a u k') : k = k' := by
  have := h.2 _ h'.1
  have := h'.2 _ h.1
  omega
theorem Dst.mn {g : List Eg} {a v k : Nat} (h : Dst g a v k) (hk : 0 < k) : Mn g a v k := by
  refine ⟨?_, fun j hj => h.2 j (.inr hj)⟩
  rcases h.1 with ⟨e, -⟩ | h
  · omega
  · exact h
/-- A cycle on its way. -/
structure CyI (g : List Eg) (a K : Nat) (L : List Nat) : Prop where
  pos : 0 < L.length
  h0 : L.getD 0 0 = a
  le : L.length ≤ K
  st : ∀ i, i + 1 < L.length → NxN g a (L.getD i 0) (K - (i + 1)) (L.getD (i + 1) 0)
theorem CyI.start (g : List Eg) (a K : Nat) (hK : 0 < K) : CyI g a K [a] := ⟨Nat.zero_lt_one, rfl, hK, fun i hi => by simp at hi⟩
theorem CyI.add {g : List Eg} {a K : Nat} {L : List Nat} (h : CyI g a K L) (hl : L.length < K) {v : Nat} (hv : NxN g a (L.getD (L.length - 1) 0) (K - L.length) v) : CyI g a K (L ++ [v]) := by
  have hp := h.pos
  have g1 : ∀ i, i < L.length → (L ++ [v]).getD i 0 = L.getD i 0 := fun i hi => by rw [List.getD_eq_getElem?_getD, List.getD_eq_getElem?_getD, List.getElem?_append_left hi]
  refine ⟨by simp, by rw [g1 0 hp]; exact h.h0, by rw [List.length_append]; exact hl, fun i hi => ?_⟩
  rw [List.length_append] at hi
  have hi : i + 1 < L.length + 1 := hi
  rw [g1 i (by omega)]
  by_cases e : i + 1 < L.length
  · rw [g1 (i + 1) e]
    exact h.st i e
  · have e2 : i + 1 = L.length := by omega
    have e3 : (L ++ [v]).getD (i + 1) 0 = v := by rw [e2, List.getD_eq_getElem?_getD, List.getElem?_append_right (Nat.le_refl _), Nat.sub_self]; rfl
    rw [e3, e2]
    have e4 : i = L.length - 1 := by omega
    rw [e4]
    exact hv
theorem CyI.one {g : List Eg} {a K : Nat} {L L' : List Nat} (h : CyI g a K L) (h' : CyI g a K L') (hl : L.length = L'.length) : L = L' := by
  have key : ∀ i, i < L.length → L.getD i 0 = L'.getD i 0 := by
    intro i
    induction i with
    | zero => intro _; rw [h.h0, h'.h0]
    | succ i ih =>
      intro hi
      have h1 := h.st i hi
      have h2 := h'.st i (by omega)
      rw [← ih (by omega)] at h2
      exact h1.one h2
  apply List.ext_getElem hl
  intro i h1 h2
  have := key i h1
  rw [List.getD_eq_getElem?_getD, List.getD_eq_getElem?_getD, List.getElem?_eq_getElem h1, List.getElem?_eq_getElem h2] at this
  exact this
/-- What Cycle answers, the program's and the document's. -/
def CycA (g : List Eg) (m : Nat) (L : List Nat) : Prop := (L = [] ∧ ∀ v, v < m → ¬ Rch g v v) ∨ ∃ a K, a < m ∧ (∀ v, v < a → ¬ Rch g v v) ∧ Mn g a a K ∧ CyI g a K L ∧ L.length = K
theorem CycA.one {g : List Eg} {m : Nat} {L L' : List Nat} (h : CycA g m L) (h' : CycA g m L') : L = L' := by
  rcases h with ⟨h1, h2⟩ | ⟨a, K, h1, h2, h3, h4, h5⟩ <;> rcases h' with ⟨g1, g2⟩ | ⟨a', K', g1, g2, g3, g4, g5⟩
  · rw [h1, g1]
  · exact absurd ⟨_, g3.1⟩ (h2 a' g1)
  · exact absurd ⟨_, h3.1⟩ (g2 a h1)
  · have e : a = a' := by
      rcases Nat.lt_trichotomy a a' with q | q | q
      · exact absurd ⟨_, h3.1⟩ (g2 a q)
      · exact q
      · exact absurd ⟨_, g3.1⟩ (h2 a' q)
    subst e
    obtain rfl := h3.one g3
    exact h4.one g4 (h5.trans g5.symm)
def CcA (n : Int) (l : List Ed) (L : List Nat) (ec : Int) : Prop := (fltG n l ≠ 0 ∧ ec = fltG n l ∧ L = []) ∨ (fltG n l = 0 ∧ ec = 0 ∧ ∀ (m : Nat) (g : List Eg), n = (m : Int) → l = g.map Eg.ed → CycA g m L)
theorem CcA.one {n : Int} {l : List Ed} {L L' : List Nat} {ec ec' : Int} (h : CcA n l L ec) (h' : CcA n l L' ec') : L = L' ∧ ec = ec' := by
  rcases h with ⟨h1, h2, h3⟩ | ⟨h1, h2, h3⟩ <;> rcases h' with ⟨g1, g2, g3⟩ | ⟨g1, g2, g3⟩
  · exact ⟨h3.trans g3.symm, h2.trans g2.symm⟩
  · exact absurd g1 h1
  · exact absurd h1 g1
  · obtain ⟨m, g, e1, -, e2, -⟩ := good_eg h1
    exact ⟨(h3 m g e1 e2).one (g3 m g e1 e2), h2.trans g2.symm⟩
theorem CcA.ok {m : Nat} {g : List Eg} {L : List Nat} (h0 : fltG (m : Int) (g.map Eg.ed) = 0) (h : CycA g m L) : CcA (m : Int) (g.map Eg.ed) L 0 := .inr ⟨h0, rfl, fun m' g' e1 e2 => by
  obtain rfl : m = m' := by omega
  rw [← eg_inj e2]
  exact h⟩
/-! ### the document's distances -/
theorem aw_mn {g : List Eg} {n a : Nat} {d : Nat → Nat} (h : Aw g n a d) (hf : AwF g a d) {v : Nat} (hv : v < n) (hl : d v < 1073741824) : Mn g a v (d v) := ⟨h.s v hv hl, fun _ hj => hf.le hj rfl⟩
theorem aw_dst {g : List Eg} {n a K : Nat} {d : Nat → Nat} (h : Aw g n a d) (hf : AwF g a d) (hK : d a = K) (hKl : K < 1073741824) {v k : Nat} (hv : v < n) (hk : 0 < k) (hkK : k < K) : Dst g a v k ↔ d v = k := by
  constructor
  · intro q
    have q := q.mn hk
    have h1 := hf.le q.1 rfl
    have h2 := q.2 _ (h.s v hv (by omega))
    omega
  · intro q
    have hp := h.s v hv (by omega)
    rw [q] at hp
    refine ⟨.inr hp, fun j hj => ?_⟩
    rcases hj with ⟨rfl, hj⟩ | hj
    · rw [hj, hK] at q; omega
    · have := hf.le hj rfl; omega
theorem aw_step {g : List Eg} {n a K : Nat} {d : Nat → Nat} (h : Aw g n a d) (hf : AwF g a d) (hKl : K < 1073741824) {u k : Nat} (hu : u < n) (hk : 0 < k) (hkK : k < K) (hd : d u = k + 1) : ∃ e ∈ g, e.f = u ∧ d e.t = k := by
  have hp := h.s u hu (by omega)
  rw [hd] at hp
  obtain ⟨e, he, h1, h2⟩ := hp.head
  rw [Nat.add_sub_cancel] at h2
  have h3 : Pth g k e.t a := by
    rcases h2 with ⟨q, -⟩ | q
    · omega
    · exact q
  have h4 := hf.le h3 rfl
  have h5 := hf e he
  unfold awK at h5
  rw [h1, hd] at h5
  split at h5
  · omega
  · exact ⟨e, he, h1, by omega⟩
/-! ### the program's distances -/
/-- The distance of each node; m: none leads there. -/
def Far (g : List Eg) (m a : Nat) (f : Nat → Nat) : Prop := ∀ v, v < m → (f v < m → P0 g (f v) v a) ∧ ∀ k, P0 g k v a → f v ≤ k ∧ f v < m
theorem Far.dst {g : List Eg} {m a : Nat} {f : Nat → Nat} (h : Far g m a f) {v k : Nat} (hv : v < m) : Dst g a v k ↔ (f v = k ∧ k < m) := by
  constructor
  · intro q
    have h1 := (h v hv).2 k q.1
    have h2 := q.2 _ ((h v hv).1 h1.2)
    omega
  · rintro ⟨rfl, q⟩
    exact ⟨(h v hv).1 q, fun j hj => ((h v hv).2 j hj).1⟩
/-- The nearest next node, and the least of these. -/
theorem Far.next {g : List Eg} {m a : Nat} {f : Nat → Nat} (h : Far g m a f) (hn : Bln g m) {u k v : Nat} (hm : Mn g a u (k + 1)) (hv : v ∈ ldN g u) (hl : ∀ t ∈ ldN g u, f v < f t ∨ (f v = f t ∧ v ≤ t)) : NxN g a u k v := by
  obtain ⟨e, he, h1, h2⟩ := mem_ldN.1 hv
  have hvm : v < m := by rw [← h2]; exact (hn e he).2
  obtain ⟨e', he', h1', h2'⟩ := hm.1.head
  rw [Nat.add_sub_cancel] at h2'
  have ht' : e'.t ∈ ldN g u := mem_ldN.2 ⟨e', he', h1', rfl⟩
  obtain ⟨q1, q2⟩ := (h e'.t (hn e' he').2).2 k h2'
  have hfv : f v ≤ k := by rcases hl _ ht' with q | q <;> omega
  have hfm : f v < m := by rcases hl _ ht' with q | q <;> omega
  have hp := (h v hvm).1 hfm
  rw [← h2] at hp
  have hge := hm.2 _ (P0.cons he h1 hp)
  rw [h2] at hge
  have hfk : f v = k := by omega
  refine ⟨⟨e, he, h1, h2⟩, (h.dst hvm).2 ⟨hfk, by omega⟩, fun e2 he2 q3 q4 => ?_⟩
  have q5 := ((h.dst (hn e2 he2).2).1 q4).1
  rcases hl e2.t (mem_ldN.2 ⟨e2, he2, q3, rfl⟩) with q | q
  · omega
  · exact q.2
/-- A walk by waves. -/
structure BF (g : List Eg) (m a : Nat) (V : List Nat) (h : Nat) (f : Nat → Nat) : Prop where
  nd : V.Nodup
  lt : ∀ x ∈ V, x < m
  ha : a ∈ V ∧ f a = 0
  un : ∀ v, v < m → v ∉ V → f v = m
  pt : ∀ v ∈ V, P0 g (f v) v a ∧ f v < V.length
  mo : ∀ i j, i ≤ j → j < V.length → f (V.getD i 0) ≤ f (V.getD j 0)
  nr : h < V.length → ∀ v ∈ V, f v ≤ f (V.getD h 0) + 1
  dn : ∀ i, i < h → ∀ e ∈ g, e.t = V.getD i 0 → e.f ∈ V ∧ f e.f ≤ f (V.getD i 0) + 1
  hl : h ≤ V.length
theorem BF.le {g : List Eg} {m a : Nat} {V : List Nat} {h : Nat} {f : Nat → Nat} (b : BF g m a V h f) : V.length ≤ m := nodup_leN m V b.nd b.lt
theorem BF.start (g : List Eg) {m a : Nat} {f : Nat → Nat} (ha : a < m) (h0 : f a = 0) (hu : ∀ v, v < m → v ≠ a → f v = m) : BF g m a [a] 0 f := by
  refine ⟨by simp, fun x hx => by simp at hx; omega, ⟨by simp, h0⟩, fun v hv hn => hu v hv (fun e => hn (by simp [e])), fun v hv => ?_, fun i j hij hj => ?_, fun _ v hv => ?_, fun i hi => absurd hi (Nat.not_lt_zero i), Nat.zero_le _⟩
  · simp at hv; subst hv; rw [h0]; exact ⟨.inl ⟨rfl, rfl⟩, by simp⟩
  · simp at hj
    obtain rfl : i = 0 := by omega
    subst hj
    exact Nat.le_refl _
  · simp at hv; subst hv; simp [h0]
/-- A node that was not met. -/
theorem BF.add {g : List Eg} {m a : Nat} {V : List Nat} {h : Nat} {f : Nat → Nat} (b : BF g m a V h f) (hh : h < V.length) {e : Eg} (he : e ∈ g) (het : e.t = V.getD h 0) (hm : e.f < m) (hf : f e.f = m) : BF g m a (V ++ [e.f]) h (upD f e.f (f (V.getD h 0) + 1)) ∧ f (V.getD h 0) + 1 < m := by
  have hin := getD_memN hh
  have hlt := (b.pt _ hin).2
  have hno : e.f ∉ V := fun q => by have := (b.pt _ q).2; have := b.le; omega
  have hle : V.length + 1 ≤ m := by
    have := nodup_leN m (V ++ [e.f]) (List.nodup_append.2 ⟨b.nd, by simp, fun x hx y hy => by simp at hy; subst hy; exact fun q => hno (q ▸ hx)⟩) (fun x hx => by
      rcases List.mem_append.1 hx with hx | hx
      · exact b.lt x hx
      · simp at hx; omega)
    rwa [List.length_append] at this
  have g1 : ∀ i, i < V.length → (V ++ [e.f]).getD i 0 = V.getD i 0 := fun i hi => by rw [List.getD_eq_getElem?_getD, List.getD_eq_getElem?_getD, List.getElem?_append_left hi]
  have g2 : (V ++ [e.f]).getD V.length 0 = e.f := by rw [List.getD_eq_getElem?_getD, List.getElem?_append_right (Nat.le_refl _), Nat.sub_self]; rfl
  have up : ∀ v ∈ V, upD f e.f (f (V.getD h 0) + 1) v = f v := fun v hv => by
    have c : v ≠ e.f := fun q => hno (by rw [← q]; exact hv)
    unfold upD
    rw [if_neg c]
  have upe : upD f e.f (f (V.getD h 0) + 1) e.f = f (V.getD h 0) + 1 := by unfold upD; rw [if_pos rfl]
  have ll : (V ++ [e.f]).length = V.length + 1 := by rw [List.length_append]; rfl
  refine ⟨⟨?_, fun x hx => ?_, ⟨List.mem_append_left _ b.ha.1, by rw [up _ b.ha.1]; exact b.ha.2⟩, fun v hv hn => ?_, fun v hv => ?_, fun i j hij hj => ?_, fun _ v hv => ?_, fun i hi e' he' q => ?_, by rw [ll]; omega⟩, by omega⟩
  · exact List.nodup_append.2 ⟨b.nd, by simp, fun x hx y hy => by simp at hy; subst hy; exact fun q => hno (q ▸ hx)⟩
  · rcases List.mem_append.1 hx with hx | hx
    · exact b.lt x hx
    · simp at hx; omega
  · have : v ≠ e.f := fun q => hn (by simp [q])
    unfold upD
    rw [if_neg this]
    exact b.un v hv (fun q => hn (List.mem_append_left _ q))
  · rcases List.mem_append.1 hv with hv | hv
    · rw [up v hv, ll]
      have := b.pt v hv
      exact ⟨this.1, by omega⟩
    · simp at hv
      subst hv
      rw [upe, ll]
      refine ⟨.inr (P0.cons he rfl ?_), by omega⟩
      rw [het]
      exact (b.pt _ hin).1
  · rw [ll] at hj
    by_cases c : j < V.length
    · rw [g1 i (by omega), g1 j c, up _ (getD_memN (by omega)), up _ (getD_memN c)]
      exact b.mo i j hij c
    · obtain rfl : j = V.length := by omega
      rw [g2, upe]
      by_cases c2 : i < V.length
      · rw [g1 i c2, up _ (getD_memN c2)]
        exact b.nr hh _ (getD_memN c2)
      · obtain rfl : i = V.length := by omega
        rw [g2, upe]
        exact Nat.le_refl _
  · rw [g1 h hh, up _ hin]
    rcases List.mem_append.1 hv with hv | hv
    · rw [up v hv]; exact b.nr hh v hv
    · simp at hv
      subst hv
      rw [upe]
      exact Nat.le_refl _
  · have hiV : i < V.length := by omega
    rw [g1 i hiV] at q ⊢
    obtain ⟨q1, q2⟩ := b.dn i hi e' he' q
    rw [up _ q1, up _ (getD_memN hiV)]
    exact ⟨List.mem_append_left _ q1, q2⟩
/-- All that lead to the first of the wave were met. -/
theorem BF.shift {g : List Eg} {m a : Nat} {V : List Nat} {h : Nat} {f : Nat → Nat} (b : BF g m a V h f) (hh : h < V.length) (hd : ∀ e ∈ g, e.t = V.getD h 0 → e.f ∈ V) : BF g m a V (h + 1) f := by
  refine ⟨b.nd, b.lt, b.ha, b.un, b.pt, b.mo, fun q v hv => ?_, fun i hi e he q => ?_, hh⟩
  · have h1 := b.nr hh v hv
    have h2 := b.mo h (h + 1) (by omega) q
    omega
  · by_cases c : i < h
    · exact b.dn i c e he q
    · obtain rfl : i = h := by omega
      have := hd e he q
      exact ⟨this, b.nr hh _ this⟩
theorem BF.done {g : List Eg} {m a : Nat} {V : List Nat} {h : Nat} {f : Nat → Nat} (b : BF g m a V h f) (hh : V.length ≤ h) : Far g m a f := by
  have key : ∀ k v b', Pth g k v b' → b' = a → v ∈ V ∧ f v ≤ k := by
    intro k v b' hp
    have one : ∀ e ∈ g, e.t ∈ V → e.f ∈ V ∧ f e.f ≤ f e.t + 1 := fun e he hv => by
      obtain ⟨i, hi, q⟩ := getD_at hv
      rw [← q]
      exact b.dn i (by omega) e he q.symm
    induction hp with
    | one e he =>
      intro hb
      have := one e he (by rw [hb]; exact b.ha.1)
      rw [hb, b.ha.2] at this
      exact this
    | more e he hp ih =>
      intro hb
      obtain ⟨q1, q2⟩ := ih hb
      obtain ⟨q3, q4⟩ := one e he q1
      exact ⟨q3, by omega⟩
  have key0 : ∀ k v, P0 g k v a → v ∈ V ∧ f v ≤ k := fun k v hp => by
    rcases hp with ⟨rfl, rfl⟩ | hp
    · exact ⟨b.ha.1, by rw [b.ha.2]; exact Nat.le_refl _⟩
    · exact key k v a hp rfl
  intro v hv
  refine ⟨fun q => ?_, fun k hk => ?_⟩
  · have : v ∈ V := Classical.byContradiction fun c => by have := b.un v hv c; omega
    exact (b.pt v this).1
  · obtain ⟨q1, q2⟩ := key0 k v hk
    have := (b.pt v q1).2
    have := b.le
    exact ⟨q2, by omega⟩
/-! ### the first part with a cycle -/
theorem sc_iffC {g : List Eg} {u v : Nat} (h : u ≠ v) : SC g u v ↔ (Rch g u v ∧ Rch g v u) := by
  constructor
  · rintro ⟨a, b⟩
    exact ⟨a.resolve_left h, b.resolve_left (fun e => h e.symm)⟩
  · rintro ⟨a, b⟩
    exact ⟨.inr a, .inr b⟩
theorem SC.rch {g : List Eg} {x y : Nat} (h : SC g x y) (hne : x ≠ y) : Rch g x x := by
  obtain ⟨h1, h2⟩ := (sc_iffC hne).1 h
  exact h1.trans h2
theorem PtA.first {g : List Eg} {m : Nat} {P : List (List Nat)} (h : PtA g m P) {i : Nat} (hi : i < P.length) (hp : ∀ j, j < i → ∀ x ∈ P.getD j [], ¬ Rch g x x) {v : Nat} (hv : v < (P.getD i []).getD 0 0) (hvm : v < m) : ¬ Rch g v v := by
  obtain ⟨p, hp1, hp2⟩ := h.p2 v hvm
  obtain ⟨j, hj, rfl⟩ := List.getElem_of_mem hp1
  have ej : P.getD j [] = P[j] := by rw [List.getD_eq_getElem?_getD, List.getElem?_eq_getElem hj]; rfl
  have ei : P.getD i [] = P[i] := by rw [List.getD_eq_getElem?_getD, List.getElem?_eq_getElem hi]; rfl
  by_cases c : j < i
  · exact hp j c v (by rw [ej]; exact hp2)
  · have hle : (P.getD i []).getD 0 0 ≤ (P.getD j []).getD 0 0 := by
      by_cases e : i = j
      · rw [e]; exact Nat.le_refl _
      · rw [ei, ej]
        exact Nat.le_of_lt (List.pairwise_iff_getElem.1 h.p3 i j hi hj (by omega))
    obtain ⟨-, h2, -⟩ := h.p0 _ hp1
    obtain ⟨k, hk, q⟩ := getD_at hp2
    have : P[j].getD 0 0 ≤ v := by
      rw [← q]
      by_cases e : k = 0
      · rw [e]; exact Nat.le_refl _
      · rw [List.getD_eq_getElem?_getD, List.getD_eq_getElem?_getD, List.getElem?_eq_getElem hk, List.getElem?_eq_getElem (by omega)]
        exact Nat.le_of_lt (List.pairwise_iff_getElem.1 h2 0 k (by omega) hk (by omega))
    rw [ej] at hle
    omega
theorem PtA.no {g : List Eg} {m : Nat} (hn : Bln g m) {P : List (List Nat)} (h : PtA g m P) {p : List Nat} (hp : p ∈ P) (h1 : p.length = 1) (h2 : p.getD 0 0 ∉ ldN g (p.getD 0 0)) : ∀ x ∈ p, ¬ Rch g x x := by
  intro x hx hr
  obtain ⟨i, hi, q⟩ := getD_at hx
  obtain rfl : i = 0 := by omega
  rw [q] at h2
  obtain ⟨k, hk⟩ := hr
  obtain ⟨e, he, q1, q2⟩ := hk.head
  have hne : x ≠ e.t := fun c => h2 (mem_ldN.2 ⟨e, he, q1, c.symm⟩)
  have h3 : Rch g e.t x := by
    rcases q2 with ⟨-, q2⟩ | q2
    · exact absurd q2.symm hne
    · exact ⟨_, q2⟩
  have h4 : Rch g x e.t := ⟨1, by rw [← q1]; exact .one e he⟩
  have h5 : e.t ∈ p := (h.p1 p hp x hx e.t (hn e he).2).2 ((sc_iffC hne).2 ⟨h4, h3⟩)
  obtain ⟨j, hj, q3⟩ := getD_at h5
  obtain rfl : j = 0 := by omega
  exact hne (q.symm.trans q3)
theorem PtA.yes {g : List Eg} {m : Nat} {P : List (List Nat)} (h : PtA g m P) {p : List Nat} (hp : p ∈ P) (h1 : 1 < p.length) : Rch g (p.getD 0 0) (p.getD 0 0) := by
  obtain ⟨-, h2, h3⟩ := h.p0 p hp
  have m0 := getD_memN (S := p) (i := 0) (by omega)
  have m1 := getD_memN (S := p) (i := 1) h1
  have hs := (h.p1 p hp _ m0 _ (h3 _ m1)).1 m1
  refine hs.rch (fun e => ?_)
  have := List.pairwise_iff_getElem.1 h2 0 1 (by omega) h1 (by omega)
  rw [List.getD_eq_getElem?_getD, List.getD_eq_getElem?_getD, List.getElem?_eq_getElem h1, List.getElem?_eq_getElem (show 0 < p.length by omega)] at e
  have e : p[0] = p[1] := e
  omega
theorem PtA.self {g : List Eg} {v : Nat} (h : v ∈ ldN g v) : Rch g v v := by
  obtain ⟨e, he, q1, q2⟩ := mem_ldN.1 h
  exact ⟨1, by have := Pth.one e he; rwa [q1, q2] at this⟩
theorem rch_mn {g : List Eg} {a v : Nat} (h : Rch g v a) : ∃ K, Mn g a v K := by
  obtain ⟨k, hk⟩ := h
  exact least_ex (p := fun k => Pth g k v a) k hk
end Go.Proofs.Ytfbbllokpikbiab
