import Derived.Test.YtfbbllokpikbiabGrJ
import Derived.Test.YtfbbllokpikbiabOqQE
namespace Go.Proofs.Ytfbbllokpikbiab
/-- The node may come behind those of the list. -/
def Fre (g : List Eg) (n : Nat) (L : List Nat) (v : Nat) : Prop := v < n ∧ v ∉ L ∧ ∀ e ∈ g, e.t = v → e.f ∈ L
/-- Nodes one by one, each time the least that may come. -/
inductive OrdL (g : List Eg) (n : Nat) : List Nat → Prop
  | nil : OrdL g n []
  | snoc {L : List Nat} {v : Nat} (h : OrdL g n L) (hf : Fre g n L v) (hl : ∀ u, Fre g n L u → v ≤ u) : OrdL g n (L ++ [v])
theorem OrdL.nodup {g : List Eg} {n : Nat} {L : List Nat} (h : OrdL g n L) : L.Nodup := by
  induction h with
  | nil => exact List.nodup_nil
  | snoc _ hf _ ih => rw [List.nodup_append]; exact ⟨ih, by simp, fun a ha b hb => by simp at hb; subst hb; exact fun e => hf.2.1 (e ▸ ha)⟩
theorem OrdL.lt {g : List Eg} {n : Nat} {L : List Nat} (h : OrdL g n L) : ∀ v ∈ L, v < n := by
  induction h with
  | nil => intro v hv; cases hv
  | snoc _ hf _ ih =>
    intro v hv
    rcases List.mem_append.1 hv with hv | hv
    · exact ih v hv
    · simp at hv; subst hv; exact hf.1
theorem OrdL.closed {g : List Eg} {n : Nat} {L : List Nat} (h : OrdL g n L) : ∀ e ∈ g, e.t ∈ L → e.f ∈ L := by
  induction h with
  | nil => intro e _ h; cases h
  | snoc _ hf _ ih =>
    intro e he hv
    rcases List.mem_append.1 hv with hv | hv
    · exact List.mem_append_left _ (ih e he hv)
    · simp at hv; exact List.mem_append_left _ (hf.2.2 e he hv)
theorem OrdL.at {g : List Eg} {n : Nat} {K : List Nat} (h : OrdL g n K) : ∀ (L : List Nat) (x : Nat) (M : List Nat), K = L ++ x :: M → Fre g n L x ∧ ∀ u, Fre g n L u → x ≤ u := by
  induction h with
  | nil => intro L x M e; simp at e
  | @snoc K v hK hf hl ih =>
    intro L x M e
    rcases List.eq_nil_or_concat M with rfl | ⟨M', y, rfl⟩
    · have e : K ++ [v] = L ++ [x] := e
      obtain ⟨rfl, e2⟩ := List.append_inj' e rfl
      simp at e2
      subst e2
      exact ⟨hf, hl⟩
    · have e : K ++ [v] = (L ++ x :: M') ++ [y] := by rw [e]; simp
      obtain ⟨rfl, -⟩ := List.append_inj' e rfl
      exact ih L x M' rfl
theorem OrdL.one {g : List Eg} {n : Nat} {L L' : List Nat} (h : OrdL g n L) (h' : OrdL g n L') (c : ∀ v, ¬ Fre g n L v) (c' : ∀ v, ¬ Fre g n L' v) : L = L' := by
  have pre : ∀ K, OrdL g n K → (∃ M, L' = K ++ M) ∨ (∃ M, K = L' ++ M) := by
    intro K hK
    induction hK with
    | nil => exact .inl ⟨L', rfl⟩
    | @snoc K v hK hf hl ih =>
      rcases ih with ⟨M, e⟩ | ⟨M, e⟩
      · cases M with
        | nil => exact .inr ⟨[v], by rw [e]; simp⟩
        | cons x M =>
          obtain ⟨q1, q2⟩ := h'.at K x M e
          have : x = v := Nat.le_antisymm (q2 v hf) (hl x q1)
          subst this
          exact .inl ⟨M, by rw [e]; simp⟩
      · exact .inr ⟨M ++ [v], by rw [e]; simp⟩
  rcases pre L h with ⟨M, e⟩ | ⟨M, e⟩
  · cases M with
    | nil => rw [e]; simp
    | cons x M => exact absurd (h'.at L x M e).1 (c x)
  · cases M with
    | nil => rw [e]; simp
    | cons x M => exact absurd (h.at L' x M e).1 (c' x)
/-- How many edges lead to a node from those that have not come. -/
def cnt (g : List Eg) (L : List Nat) (v : Nat) : Nat := (g.filter (fun e => e.t == v && !decide (e.f ∈ L))).length
theorem cnt_zero {g : List Eg} {L : List Nat} {v : Nat} : cnt g L v = 0 ↔ ∀ e ∈ g, e.t = v → e.f ∈ L := by
  unfold cnt
  rw [List.length_eq_zero_iff, List.filter_eq_nil_iff]
  constructor
  · intro h e he ht
    have := h e he
    simp [ht] at this
    exact this
  · intro h e he
    simp
    exact fun ht => h e he ht
theorem fre_cnt {g : List Eg} {n : Nat} {L : List Nat} {v : Nat} : Fre g n L v ↔ v < n ∧ v ∉ L ∧ cnt g L v = 0 := by unfold Fre; rw [cnt_zero]
theorem cnt_snoc {L : List Nat} {v : Nat} (hv : v ∉ L) (u : Nat) : ∀ g : List Eg, cnt g L u = cnt g (L ++ [v]) u + (ldN g v).count u
  | [] => rfl
  | e :: g => by
    have ih := cnt_snoc hv u g
    unfold cnt ldN at ih ⊢
    by_cases hf : e.f = v
    · have h1 : e.f ∉ L := by rw [hf]; exact hv
      by_cases ht : e.t = u
      · rw [List.filter_cons_of_pos (by simp [ht, h1]), List.filter_cons_of_neg (by simp [hf]), List.filter_cons_of_pos (by simp [hf]), List.map_cons, List.length_cons, ht, List.count_cons_self, ih]
        omega
      · rw [List.filter_cons_of_neg (by simp [ht]), List.filter_cons_of_neg (by simp [hf]), List.filter_cons_of_pos (by simp [hf]), List.map_cons, List.count_cons_of_ne ht, ih]
    · rw [List.filter_cons_of_neg (p := fun e : Eg => e.f == v) (by simp [hf])]
      by_cases hL : e.f ∈ L
      · rw [List.filter_cons_of_neg (by simp [hL]), List.filter_cons_of_neg (by simp [hL]), ih]
      · by_cases ht : e.t = u
        · rw [List.filter_cons_of_pos (by simp [ht, hL]), List.filter_cons_of_pos (by simp [ht, hL, hf]), List.length_cons, List.length_cons, ih]
          omega
        · rw [List.filter_cons_of_neg (by simp [ht]), List.filter_cons_of_neg (by simp [ht]), ih]
/-- The same, on the way through a node's edges. -/
def cJ (g : List Eg) (L : List Nat) (v j u : Nat) : Nat := cnt g (L ++ [v]) u + ((ldN g v).drop j).count u
theorem cJ_zero {g : List Eg} {L : List Nat} {v : Nat} (hv : v ∉ L) (u : Nat) : cJ g L v 0 u = cnt g L u := by unfold cJ; rw [List.drop_zero, cnt_snoc hv u g]
theorem cJ_end {g : List Eg} {L : List Nat} {v j : Nat} (hj : (ldN g v).length ≤ j) (u : Nat) : cJ g L v j u = cnt g (L ++ [v]) u := by unfold cJ; rw [List.drop_of_length_le hj]; simp
theorem cJ_next {g : List Eg} {L : List Nat} {v j : Nat} (hj : j < (ldN g v).length) (u : Nat) : cJ g L v j u = cJ g L v (j + 1) u + (if (ldN g v).getD j 0 = u then 1 else 0) := by
  unfold cJ
  rw [List.drop_eq_getElem_cons hj, List.getD_eq_getElem?_getD, List.getElem?_eq_getElem hj, List.count_cons]
  simp only [Option.getD_some, beq_iff_eq]
  omega
/-- How many edges lead to a node. -/
def tc (g : List Eg) (u : Nat) : Nat := (g.filter (fun e => e.t == u)).length
theorem tc_snoc (g : List Eg) (c : Eg) (u : Nat) : tc (g ++ [c]) u = tc g u + (if c.t = u then 1 else 0) := by
  unfold tc
  rw [List.filter_append, List.length_append]
  by_cases h : c.t = u
  · rw [List.filter_cons_of_pos (by simp [h]), if_pos h]; rfl
  · rw [List.filter_cons_of_neg (by simp [h]), if_neg h]; rfl
theorem tc_cnt (g : List Eg) (u : Nat) : tc g u = cnt g [] u := by unfold tc cnt; congr 1; apply List.filter_congr; intro e _; simp
theorem tc_le (g : List Eg) (u : Nat) : tc g u ≤ g.length := List.length_filter_le _ _
theorem cnt_le (g : List Eg) (L : List Nat) (u : Nat) : cnt g L u ≤ g.length := List.length_filter_le _ _
/-- The queue holds just these nodes. -/
structure Qs (xs : List It) (P : Nat → Prop) : Prop where
  m : ∀ x ∈ xs, ∃ v : Nat, x = ((v : Int), (v : Int)) ∧ P v
  a : ∀ v : Nat, P v → ((v : Int), (v : Int)) ∈ xs
  n : (ids xs).Nodup
theorem Qs.congr {xs : List It} {P Q : Nat → Prop} (h : Qs xs P) (e : ∀ v, P v ↔ Q v) : Qs xs Q := ⟨fun x hx => by
  obtain ⟨v, h1, h2⟩ := h.m x hx
  exact ⟨v, h1, (e v).1 h2⟩, fun v hv => h.a v ((e v).2 hv), h.n⟩
theorem Qs.no {xs : List It} {P : Nat → Prop} (h : Qs xs P) {v : Nat} (hv : ¬ P v) : (v : Int) ∉ ids xs := fun hm => by
  unfold ids at hm
  obtain ⟨x, hx, e⟩ := List.mem_map.1 hm
  obtain ⟨u, rfl, hu⟩ := h.m x hx
  have e : (u : Int) = (v : Int) := e
  obtain rfl : u = v := by omega
  exact hv hu
theorem Qs.add {xs ys : List It} {P : Nat → Prop} (h : Qs xs P) {v : Nat} (hp : ys.Perm (xs ++ [((v : Int), (v : Int))])) (hn : (ids ys).Nodup) : Qs ys (fun u => P u ∨ u = v) := by
  refine ⟨fun x hx => ?_, fun u hu => ?_, hn⟩
  · rcases List.mem_append.1 ((hp.mem_iff).1 hx) with hx | hx
    · obtain ⟨u, h1, h2⟩ := h.m x hx
      exact ⟨u, h1, .inl h2⟩
    · simp only [List.mem_singleton] at hx
      exact ⟨v, hx, .inr rfl⟩
  · refine (hp.mem_iff).2 ?_
    rcases hu with hu | rfl
    · exact List.mem_append_left _ (h.a u hu)
    · exact List.mem_append_right _ (by simp)
theorem Qs.take {xs ys : List It} {x : It} {P : Nat → Prop} (h : Qs xs P) (hp : (x :: ys).Perm xs) (hl : ∀ y ∈ xs, bef y x = false) : ∃ v : Nat, x = ((v : Int), (v : Int)) ∧ P v ∧ (∀ u, P u → v ≤ u) ∧ Qs ys (fun u => P u ∧ u ≠ v) := by
  obtain ⟨v, rfl, hv⟩ := h.m x ((hp.mem_iff).1 (by simp))
  have hn : (ids (((v : Int), (v : Int)) :: ys)).Nodup := ((hp.map (fun x : It => x.2)).nodup_iff).2 h.n
  have hn2 : (v : Int) ∉ ids ys ∧ (ids ys).Nodup := List.nodup_cons.1 hn
  refine ⟨v, rfl, hv, fun u hu => ?_, fun y hy => ?_, fun u hu => ?_, hn2.2⟩
  · have := hl _ (h.a u hu)
    unfold bef at this
    have := of_decide_eq_false this
    simp only [not_or] at this
    omega
  · obtain ⟨u, rfl, hu⟩ := h.m y ((hp.mem_iff).1 (List.mem_cons_of_mem _ hy))
    refine ⟨u, rfl, hu, fun e => hn2.1 ?_⟩
    subst e
    exact List.mem_map.2 ⟨_, hy, rfl⟩
  · have := (hp.mem_iff).2 (h.a u hu.1)
    rcases List.mem_cons.1 this with e | e
    · injection e with e _
      exact absurd (by omega) hu.2
    · exact e
theorem Qs.len {xs : List It} {P : Nat → Prop} (h : Qs xs P) {v n : Nat} (hP : ∀ u, P u → u < n) (hv : ¬ P v) (hvn : v < n) : xs.length < n := by
  have h1 : (xs.map (fun x : It => x.2.toNat)).Nodup := by
    have e : xs.map (fun x : It => x.2.toNat) = (ids xs).map Int.toNat := by unfold ids; rw [List.map_map]; rfl
    rw [e]
    refine List.pairwise_map.2 (h.n.imp_of_mem (fun {a b} ha hb hab => ?_))
    obtain ⟨x, hx, rfl⟩ := List.mem_map.1 ha
    obtain ⟨y, hy, rfl⟩ := List.mem_map.1 hb
    obtain ⟨p, rfl, -⟩ := h.m x hx
    obtain ⟨q, rfl, -⟩ := h.m y hy
    exact fun e => hab (by simp at e; simp [e])
  have h2 := nodup_leN n (v :: xs.map (fun x : It => x.2.toNat)) (List.nodup_cons.2 ⟨fun hm => by
    obtain ⟨x, hx, e⟩ := List.mem_map.1 hm
    obtain ⟨p, rfl, hp⟩ := h.m x hx
    have e : p = v := by simpa using e
    exact hv (e ▸ hp), h1⟩) (fun y hy => by
    rcases List.mem_cons.1 hy with rfl | hy
    · exact hvn
    · obtain ⟨x, hx, rfl⟩ := List.mem_map.1 hy
      obtain ⟨p, rfl, hp⟩ := h.m x hx
      simpa using hP p hp)
  simp at h2
  omega
theorem Qs.nil {P : Nat → Prop} (h : ∀ v, ¬ P v) : Qs [] P := ⟨(fun x hx => by cases hx), fun v hv => absurd hv (h v), List.nodup_nil⟩
end Go.Proofs.Ytfbbllokpikbiab
