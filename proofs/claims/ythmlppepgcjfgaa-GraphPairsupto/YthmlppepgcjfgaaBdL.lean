import Derived.Test.YthmlppepgcjfgaaBdK
namespace Go.Proofs.Ythmlppepgcjfgaa
open Go.RowKit Go.Deep
/-- A committed attempt, without memory. -/
structure Ag where
  nd : Int
  fn : Int
  en : Int
  rs : List Int
  ws : List Int
def Fit (ts : List Tv) (g : Ag) : Prop := ∃ i : Nat, i < ts.length ∧ g.nd = (i : Int) ∧ (ts.getD i tv0).out = 1 ∧ g.fn = (ts.getD i tv0).fnl ∧ g.en = (ts.getD i tv0).end_ ∧ g.rs.Pairwise (fun x y => x < y) ∧ g.ws.Pairwise (fun x y => x < y) ∧ (∀ x, x ∈ g.rs ↔ rdB (ts.getD i tv0) x = true) ∧ (∀ x, x ∈ g.ws ↔ wrB (ts.getD i tv0) x = true)
def sumG (gs : List Ag) : Nat := (gs.map (fun g => g.ws.length + g.rs.length)).sum
def sumT (ts : List Tv) : Nat := (ts.map (fun t => t.wrs.length + t.saws.length)).sum
theorem sumT_next {ts : List Tv} {k : Nat} (h : k < ts.length) : sumT (ts.take (k + 1)) = sumT (ts.take k) + ((ts.getD k tv0).wrs.length + (ts.getD k tv0).saws.length) := by
  unfold sumT
  rw [List.take_add_one, List.getElem?_eq_getElem h, List.getD_eq_getElem?_getD, List.getElem?_eq_getElem h, List.map_append, List.sum_append]
  simp
theorem sumT_le (ts : List Tv) (k : Nat) : sumT (ts.take k) ≤ sumT ts := by
  have h : sumT ts = sumT (ts.take k) + sumT (ts.drop k) := by
    unfold sumT
    rw [← List.sum_append, ← List.map_append, List.take_append_drop]
  omega
/-- The committed ones of the first k. -/
structure CmG (ts : List Tv) (k : Nat) (gs : List Ag) : Prop where
  f : ∀ g ∈ gs, Fit ts g ∧ g.nd < (k : Int)
  s : gs.Pairwise (fun a b => a.nd < b.nd)
  c : ∀ i : Nat, i < k → (ts.getD i tv0).out = 1 → ∃ g ∈ gs, g.nd = (i : Int)
  l : gs.length ≤ k
  n : sumG gs ≤ sumT (ts.take k)
theorem CmG.start (ts : List Tv) : CmG ts 0 [] := ⟨(fun g h => nomatch h), List.Pairwise.nil, fun i h => by omega, Nat.le_refl _, Nat.zero_le _⟩
theorem CmG.stay {ts : List Tv} {k : Nat} {gs : List Ag} (h : CmG ts k gs) (hk : k < ts.length) (ho : (ts.getD k tv0).out ≠ 1) : CmG ts (k + 1) gs :=
  ⟨fun g hg => ⟨(h.f g hg).1, by have := (h.f g hg).2; omega⟩, h.s, fun i hi he => by
    by_cases c : i = k
    · subst c; exact absurd he ho
    · exact h.c i (by omega) he, by have := h.l; omega, by have := h.n; rw [sumT_next hk]; omega⟩
theorem CmG.next {ts : List Tv} {k : Nat} {gs : List Ag} (h : CmG ts k gs) (hk : k < ts.length) (ho : (ts.getD k tv0).out = 1) (rs ws : List Int) (h1 : rs.Pairwise (fun x y => x < y)) (h2 : ws.Pairwise (fun x y => x < y)) (h3 : ∀ x, x ∈ rs ↔ rdB (ts.getD k tv0) x = true) (h4 : ∀ x, x ∈ ws ↔ wrB (ts.getD k tv0) x = true) (h5 : rs.length ≤ (ts.getD k tv0).saws.length) (h6 : ws.length ≤ (ts.getD k tv0).wrs.length) : CmG ts (k + 1) (gs ++ [⟨(k : Int), (ts.getD k tv0).fnl, (ts.getD k tv0).end_, rs, ws⟩]) := by
  refine ⟨fun g hg => ?_, ?_, fun i hi he => ?_, ?_, ?_⟩
  · rcases List.mem_append.1 hg with q | q
    · exact ⟨(h.f g q).1, by have := (h.f g q).2; omega⟩
    · simp at q
      subst q
      exact ⟨⟨k, hk, rfl, ho, rfl, rfl, h1, h2, h3, h4⟩, by show (k : Int) < _; omega⟩
  · rw [List.pairwise_append]
    refine ⟨h.s, by simp, fun a ha b hb => ?_⟩
    simp at hb
    subst hb
    exact (h.f a ha).2
  · by_cases c : i = k
    · subst c
      exact ⟨_, List.mem_append.2 (.inr (List.mem_singleton.2 rfl)), rfl⟩
    · obtain ⟨g, hg, e⟩ := h.c i (by omega) he
      exact ⟨g, List.mem_append.2 (.inl hg), e⟩
  · rw [List.length_append]
    have := h.l
    simp
    omega
  · have := h.n
    rw [sumT_next hk]
    unfold sumG at this ⊢
    rw [List.map_append, List.sum_append]
    show _ + (ws.length + rs.length + 0) ≤ _
    omega
/-- Attempts and what they are. -/
structure OwA (p : (At × Ag)) : Prop where
  nd : p.1.nd = p.2.nd
  fn : p.1.fn = p.2.fn
  en : p.1.en = p.2.en
/-- Who writes what, one by one; an object's writers. -/
def fl (P : List (At × Ag)) : List (At × Int) := P.flatMap (fun p => p.2.ws.map (fun x => (p.1, x)))
def wrN (g : List (At × Int)) (x : Int) : List At := (g.filter (fun q => q.2 == x)).map (·.1)
theorem wrN_app (g h : List (At × Int)) (x : Int) : wrN (g ++ h) x = wrN g x ++ wrN h x := by
  unfold wrN
  rw [List.filter_append, List.map_append]
theorem wrN_one (t : At) (y x : Int) : wrN [(t, y)] x = if y = x then [t] else [] := by
  unfold wrN
  by_cases c : y = x
  · simp [c]
  · simp [c]
theorem wrN_len (g : List (At × Int)) (x : Int) : (wrN g x).length ≤ g.length := by
  unfold wrN
  rw [List.length_map]
  exact List.length_filter_le _ _
theorem wrN_mem {P : List (At × Ag)} {x : Int} {u : At} : u ∈ wrN (fl P) x ↔ ∃ p ∈ P, p.1 = u ∧ x ∈ p.2.ws := by
  unfold wrN fl
  rw [List.mem_map]
  constructor
  · rintro ⟨q, hq, rfl⟩
    obtain ⟨hq, e⟩ := List.mem_filter.1 hq
    obtain ⟨p, hp, hq⟩ := List.mem_flatMap.1 hq
    obtain ⟨y, hy, rfl⟩ := List.mem_map.1 hq
    have e : y = x := beq_iff_eq.1 e
    exact ⟨p, hp, rfl, e ▸ hy⟩
  · rintro ⟨p, hp, rfl, hx⟩
    exact ⟨(p.1, x), List.mem_filter.2 ⟨List.mem_flatMap.2 ⟨p, hp, List.mem_map.2 ⟨x, hx, rfl⟩⟩, beq_iff_eq.2 rfl⟩, rfl⟩
/-- The nodes are told apart. -/
structure Apt (P : List (At × Ag)) : Prop where
  o : ∀ p ∈ P, OwA p
  s : P.Pairwise (fun a b => a.1.nd ≠ b.1.nd)
  w : ∀ p ∈ P, p.2.ws.Pairwise (fun x y => x ≠ y)
  r : ∀ p ∈ P, p.2.rs.Pairwise (fun x y => x ≠ y)
theorem Apt.wr {P : List (At × Ag)} (h : Apt P) (x : Int) : (wrN (fl P) x).Pairwise (fun a b => a.nd ≠ b.nd) := by
  unfold wrN
  rw [List.pairwise_map]
  have h2 : (fl P).Pairwise (fun a b => a.1.nd ≠ b.1.nd ∨ a.2 ≠ b.2) := by
    unfold fl
    rw [List.pairwise_flatMap]
    refine ⟨fun p hp => ?_, ?_⟩
    · rw [List.pairwise_map]
      exact (h.w p hp).imp (fun q => .inr q)
    · refine h.s.imp (fun {a b} q x hx y hy => ?_)
      obtain ⟨_, _, rfl⟩ := List.mem_map.1 hx
      obtain ⟨_, _, rfl⟩ := List.mem_map.1 hy
      exact .inl q
  refine (List.Pairwise.filter _ h2).imp_of_mem (fun {a b} ha hb q => ?_)
  have ea := beq_iff_eq.1 (List.mem_filter.1 ha).2
  have eb := beq_iff_eq.1 (List.mem_filter.1 hb).2
  rcases q with q | q
  · exact q
  · exact absurd (ea.trans eb.symm) q
theorem Apt.few {P : List (At × Ag)} (h : Apt P) (x : Int) : (wrN (fl P) x).length ≤ P.length := by
  have hw := h.w
  clear h
  induction P with
  | nil => simp [fl, wrN]
  | cons p P ih =>
    have i := ih (fun q hq => hw q (List.mem_cons_of_mem _ hq))
    have e : fl (p :: P) = p.2.ws.map (fun x => (p.1, x)) ++ fl P := rfl
    rw [e, wrN_app, List.length_append, List.length_cons]
    have : (wrN (p.2.ws.map (fun x => (p.1, x))) x).length ≤ 1 := by
      have hp := hw p (List.mem_cons_self ..)
      generalize p.2.ws = l at hp
      clear i ih hw e
      induction l with
      | nil => simp [wrN]
      | cons y l ih =>
        obtain ⟨a, b⟩ := List.pairwise_cons.1 hp
        have e : List.map (fun x => (p.1, x)) (y :: l) = [(p.1, y)] ++ l.map (fun x => (p.1, x)) := rfl
        rw [e, wrN_app, wrN_one, List.length_append]
        by_cases c : y = x
        · have e0 : wrN (l.map (fun x => (p.1, x))) x = [] := by
            unfold wrN
            rw [List.map_eq_nil_iff, List.filter_eq_nil_iff]
            intro q hq
            obtain ⟨z, hz, rfl⟩ := List.mem_map.1 hq
            have := a z hz
            simp
            omega
          rw [e0, if_pos c]
          simp
        · rw [if_neg c]
          simpa using ih b
    omega
/-- The edges of an attempt, of all. -/
def paW (P : List (At × Ag)) (t : At) (x : Int) : List Ed := (wrN (fl P) x).flatMap (oW t x)
def paR (P : List (At × Ag)) (t : At) (x : Int) : List Ed := (wrN (fl P) x).flatMap (oR t x)
def paE (P : List (At × Ag)) (p : (At × Ag)) : List Ed := p.2.ws.flatMap (paW P p.1) ++ p.2.rs.flatMap (paR P p.1)
def alE (P : List (At × Ag)) : List Ed := P.flatMap (paE P)
theorem oW_mem {t u : At} {x : Int} {e : Ed} : e ∈ oW t x u ↔ u.en < t.en ∧ e = ⟨u.nd, t.nd, 1, x⟩ := by
  unfold oW
  by_cases c : u.en < t.en <;> simp [c]
theorem oR_mem {t u : At} {x : Int} {e : Ed} : e ∈ oR t x u ↔ u.nd ≠ t.nd ∧ ((u.en < t.fn ∧ e = ⟨u.nd, t.nd, 0, x⟩) ∨ (¬ u.en < t.fn ∧ e = ⟨t.nd, u.nd, 2, x⟩)) := by
  unfold oR
  by_cases c : u.nd = t.nd
  · simp [c]
  · by_cases d : u.en < t.fn <;> simp [c, d]
theorem paW_mem {P : List (At × Ag)} {t : At} {x : Int} {e : Ed} (h : e ∈ paW P t x) : e.k = 1 ∧ e.t = t.nd ∧ e.o = x := by
  obtain ⟨u, hu, he⟩ := List.mem_flatMap.1 h
  obtain ⟨_, rfl⟩ := oW_mem.1 he
  exact ⟨rfl, rfl, rfl⟩
theorem paR_mem {P : List (At × Ag)} {t : At} {x : Int} {e : Ed} (h : e ∈ paR P t x) : ((e.k = 0 ∧ e.t = t.nd) ∨ (e.k = 2 ∧ e.f = t.nd)) ∧ e.o = x := by
  obtain ⟨u, hu, he⟩ := List.mem_flatMap.1 h
  obtain ⟨_, ⟨_, rfl⟩ | ⟨_, rfl⟩⟩ := oR_mem.1 he
  · exact ⟨.inl ⟨rfl, rfl⟩, rfl⟩
  · exact ⟨.inr ⟨rfl, rfl⟩, rfl⟩
theorem paE_mem {P : List (At × Ag)} {p : (At × Ag)} {e : Ed} (h : e ∈ paE P p) : (e.k = 1 ∧ e.t = p.1.nd) ∨ (e.k = 0 ∧ e.t = p.1.nd) ∨ (e.k = 2 ∧ e.f = p.1.nd) := by
  rcases List.mem_append.1 h with h | h
  · obtain ⟨x, _, h⟩ := List.mem_flatMap.1 h
    have := paW_mem h
    exact .inl ⟨this.1, this.2.1⟩
  · obtain ⟨x, _, h⟩ := List.mem_flatMap.1 h
    exact .inr (paR_mem h).1
theorem Apt.nodup {P : List (At × Ag)} (h : Apt P) : (alE P).Nodup := by
  unfold alE List.Nodup
  rw [List.pairwise_flatMap]
  refine ⟨fun p hp => ?_, ?_⟩
  · unfold paE
    rw [List.pairwise_append]
    refine ⟨?_, ?_, fun a ha b hb => ?_⟩
    · rw [List.pairwise_flatMap]
      refine ⟨fun x hx => ?_, (h.w p hp).imp (fun {x y} q a ha b hb e => ?_)⟩
      · unfold paW
        rw [List.pairwise_flatMap]
        refine ⟨fun u _ => ?_, (h.wr x).imp (fun {u v} q a ha b hb e => ?_)⟩
        · unfold oW; split <;> simp
        · obtain ⟨_, rfl⟩ := oW_mem.1 ha
          obtain ⟨_, rfl⟩ := oW_mem.1 hb
          injection e with e
          exact q e
      · have h1 := (paW_mem ha).2.2
        have h2 := (paW_mem hb).2.2
        rw [e] at h1
        exact q (h1.symm.trans h2)
    · rw [List.pairwise_flatMap]
      refine ⟨fun x hx => ?_, (h.r p hp).imp (fun {x y} q a ha b hb e => ?_)⟩
      · unfold paR
        rw [List.pairwise_flatMap]
        refine ⟨fun u _ => ?_, (h.wr x).imp (fun {u v} q a ha b hb e => ?_)⟩
        · unfold oR
          split
          · simp
          · split <;> simp
        · obtain ⟨_, ⟨_, rfl⟩ | ⟨_, rfl⟩⟩ := oR_mem.1 ha <;> obtain ⟨_, ⟨_, rfl⟩ | ⟨_, rfl⟩⟩ := oR_mem.1 hb <;> simp only [Ed.mk.injEq] at e <;> omega
      · have h1 := (paR_mem ha).2
        have h2 := (paR_mem hb).2
        rw [e] at h1
        exact q (h1.symm.trans h2)
    · obtain ⟨x, _, ha⟩ := List.mem_flatMap.1 ha
      obtain ⟨y, _, hb⟩ := List.mem_flatMap.1 hb
      have h1 := (paW_mem ha).1
      have h2 := (paR_mem hb).1
      intro e
      subst e
      omega
  · refine h.s.imp (fun {p q} hn a ha b hb e => ?_)
    subst e
    have h1 := paE_mem ha
    have h2 := paE_mem hb
    omega
theorem CmG.apt {ts : List Tv} {k : Nat} {P : List (At × Ag)} (h : CmG ts k (P.map (·.2))) (ho : ∀ p ∈ P, OwA p) : Apt P := by
  refine ⟨ho, ?_, fun p hp => ?_, fun p hp => ?_⟩
  · have := h.s
    rw [List.pairwise_map] at this
    refine this.imp_of_mem (fun {a b} ha hb q => ?_)
    rw [(ho a ha).nd, (ho b hb).nd]
    omega
  · obtain ⟨⟨i, _, _, _, _, _, _, h2, _⟩, _⟩ := h.f p.2 (List.mem_map.2 ⟨p, hp, rfl⟩)
    exact h2.imp (fun {x y} q => by omega)
  · obtain ⟨⟨i, _, _, _, _, _, h2, _⟩, _⟩ := h.f p.2 (List.mem_map.2 ⟨p, hp, rfl⟩)
    exact h2.imp (fun {x y} q => by omega)
theorem CmG.al {ts : List Tv} {P : List (At × Ag)} (h : CmG ts ts.length (P.map (·.2))) (ho : ∀ p ∈ P, OwA p) (e : Ed) : e ∈ alE P ↔ GaE ts e := by
  have hfit : ∀ p ∈ P, Fit ts p.2 := fun p hp => (h.f p.2 (List.mem_map.2 ⟨p, hp, rfl⟩)).1
  have hget : ∀ i : Nat, i < ts.length → (ts.getD i tv0).out = 1 → ∃ p ∈ P, p.1.nd = (i : Int) := fun i hi hi1 => by
    obtain ⟨g, hg, e⟩ := h.c i hi hi1
    obtain ⟨p, hp, rfl⟩ := List.mem_map.1 hg
    exact ⟨p, hp, by rw [(ho p hp).nd]; exact e⟩
  constructor
  · intro he
    obtain ⟨p, hp, he⟩ := List.mem_flatMap.1 he
    obtain ⟨t, ht, nt, ot, ft, et, _, _, rt, wt⟩ := hfit p hp
    have op := ho p hp
    rcases List.mem_append.1 he with he | he
    · obtain ⟨x, hx, he⟩ := List.mem_flatMap.1 he
      obtain ⟨u', hu', he⟩ := List.mem_flatMap.1 he
      obtain ⟨q, hq, rfl, hxq⟩ := wrN_mem.1 hu'
      obtain ⟨u, hu, nu, ou, fu, eu, _, _, ru, wu⟩ := hfit q hq
      have oq := ho q hq
      obtain ⟨h1, rfl⟩ := oW_mem.1 he
      refine ⟨t, u, x, ht, hu, ot, ou, (wu x).1 hxq, .inl ⟨(wt x).1 hx, ?_, ?_⟩⟩
      · rw [← eu, ← et, ← oq.en, ← op.en]; exact h1
      · rw [oq.nd, op.nd, nu, nt]
    · obtain ⟨x, hx, he⟩ := List.mem_flatMap.1 he
      obtain ⟨u', hu', he⟩ := List.mem_flatMap.1 he
      obtain ⟨q, hq, rfl, hxq⟩ := wrN_mem.1 hu'
      obtain ⟨u, hu, nu, ou, fu, eu, _, _, ru, wu⟩ := hfit q hq
      have oq := ho q hq
      obtain ⟨h0, h1⟩ := oR_mem.1 he
      refine ⟨t, u, x, ht, hu, ot, ou, (wu x).1 hxq, .inr ⟨(rt x).1 hx, ?_, ?_⟩⟩
      · rw [← nu, ← nt, ← oq.nd, ← op.nd]; exact h0
      · rw [oq.nd, op.nd, nu, nt, oq.en, op.fn, eu, ft] at h1
        exact h1
  · rintro ⟨t, u, x, ht, hu, ot, ou, hw, hh⟩
    obtain ⟨p, hp, np⟩ := hget t ht ot
    obtain ⟨q, hq, nq⟩ := hget u hu ou
    have op := ho p hp
    have oq := ho q hq
    obtain ⟨t', ht', nt, _, ft, et, _, _, rt, wt⟩ := hfit p hp
    have : t' = t := by rw [op.nd, nt] at np; omega
    subst this
    obtain ⟨u', hu', nu, _, fu, eu, _, _, ru, wu⟩ := hfit q hq
    have : u' = u := by rw [oq.nd, nu] at nq; omega
    subst this
    refine List.mem_flatMap.2 ⟨p, hp, List.mem_append.2 ?_⟩
    have hm : q.1 ∈ wrN (fl P) x := wrN_mem.2 ⟨q, hq, rfl, (wu x).2 hw⟩
    rcases hh with ⟨h1, h2, rfl⟩ | ⟨h1, h2, h3⟩
    · refine .inl (List.mem_flatMap.2 ⟨x, (wt x).2 h1, List.mem_flatMap.2 ⟨q.1, hm, oW_mem.2 ⟨?_, ?_⟩⟩⟩)
      · rw [oq.en, op.en, eu, et]; exact h2
      · rw [nq, np]
    · refine .inr (List.mem_flatMap.2 ⟨x, (rt x).2 h1, List.mem_flatMap.2 ⟨q.1, hm, oR_mem.2 ⟨?_, ?_⟩⟩⟩)
      · rw [nq, np]; exact h2
      · rw [nq, np, oq.en, op.fn, eu, ft]; exact h3
/-- How many there are. -/
theorem fm_len {α β : Type} (f : α → List β) {n : Nat} (hf : ∀ a, (f a).length ≤ n) : ∀ l : List α, (l.flatMap f).length ≤ l.length * n
  | [] => by simp
  | a :: l => by
    have := fm_len f hf l
    have := hf a
    rw [List.flatMap_cons, List.length_append, List.length_cons, Nat.add_mul]
    omega
theorem fm_take {α β : Type} (f : α → List β) (l : List α) (k : Nat) : ((l.take k).flatMap f).length ≤ (l.flatMap f).length := by
  conv => rhs; rw [← List.take_append_drop k l, List.flatMap_append, List.length_append]
  omega
theorem Apt.lnW {P : List (At × Ag)} (h : Apt P) (t : At) (x : Int) : (paW P t x).length ≤ P.length := Nat.le_trans (flat_len _ (oW_len t x) _) (h.few x)
theorem Apt.lnR {P : List (At × Ag)} (h : Apt P) (t : At) (x : Int) : (paR P t x).length ≤ P.length := Nat.le_trans (flat_len _ (oR_len t x) _) (h.few x)
theorem Apt.len {P : List (At × Ag)} (h : Apt P) (Q : List (At × Ag)) : (Q.flatMap (paE P)).length ≤ sumG (Q.map (·.2)) * P.length := by
  induction Q with
  | nil => simp
  | cons p Q ih =>
    have e : sumG ((p :: Q).map (·.2)) = (p.2.ws.length + p.2.rs.length) + sumG (Q.map (·.2)) := by unfold sumG; simp
    rw [List.flatMap_cons, List.length_append, e, Nat.add_mul]
    have h1 := fm_len _ (h.lnW p.1) p.2.ws
    have h2 := fm_len _ (h.lnR p.1) p.2.rs
    have e2 : (paE P p).length = (p.2.ws.flatMap (paW P p.1)).length + (p.2.rs.flatMap (paR P p.1)).length := by unfold paE; rw [List.length_append]
    rw [e2, Nat.add_mul]
    omega
end Go.Proofs.Ythmlppepgcjfgaa
