import Derived.Test.YthmlppepgcjfgaaBdM
namespace Go.Proofs.Ythmlppepgcjfgaa
open Go.RowKit Go.Maps Go.ChangeMaps Go.MapKept Go.WideShapes
attribute [local go_sem] Oper.semAt_some run_store_nf run_store_f
theorem wrN_one2 (e : At × Int) (x : Int) : wrN [e] x = if e.2 = x then [e.1] else [] := wrN_one e.1 e.2 x
theorem underWr : Try.prog.underlying 55 = some (.map 3 41) := by kernel_rfl
theorem zeroSA (w : World) : (zeroValue 41).run Try.prog w = .ok (.slice none 0 0) w := by kernel_rfl
/-- The writers of the objects, on their way. -/
structure LA (W : World) (base mb : Nat) (g : List (At × Int)) (cnt : Nat) (f : Int → Option Value) : Prop where
  m : MV W mb cnt f
  n : cnt ≤ g.length
  b : base ≤ mb
  h : ∀ x : Int, (f x = none ∧ wrN g x = []) ∨ ∃ s, f x = some s ∧ W.ownsRow base 58 5 s (wrN g x).length (acl (wrN g x))
  d : ∀ x y : Int, x ≠ y → ∀ s s', f x = some s → f y = some s' → ∀ b, s.ownBlock = some b → s'.ownBlock ≠ some b
theorem LA.start (W : World) : LA (W.alloc (.map #[] 0)) W.heap.size W.heap.size [] 0 (fun _ => none) :=
  ⟨MV.made W, Nat.le_refl _, Nat.le_refl _, fun v => .inl ⟨rfl, rfl⟩, fun v v' _ s s' h => by cases h⟩
theorem LA.keep {W W' : World} {base mb cnt : Nat} {g : List (At × Int)} {f : Int → Option Value} (h : LA W base mb g cnt f) (k : Keeps (fun _ => False) W W') : LA W' base mb g cnt f :=
  ⟨h.m.keep k (fun e => e), h.n, h.b, fun v => (h.h v).imp id (fun ⟨s, e, ho⟩ => ⟨s, e, k.owns ho (fun _ _ e => e)⟩), h.d⟩
theorem LA.at {W : World} {base mb cnt : Nat} {g : List (At × Int)} {f : Int → Option Value} (h : LA W base mb g cnt f) (v : Int) : ∃ s, (f v).getD (.slice none 0 0) = s ∧ W.ownsRow base 58 5 s (wrN g v).length (acl (wrN g v)) ∧ (s = .slice none 0 0 ∨ f v = some s) := by
  rcases h.h v with ⟨e, e2⟩ | ⟨s, e, ho⟩
  · rw [e, e2]
    exact ⟨_, rfl, World.ownsRow_nil _ _ _ _, .inl rfl⟩
  · rw [e]
    exact ⟨s, rfl, ho, .inr rfl⟩
/-- A writer more. -/
theorem LA.next {W W1 W2 : World} {base mb cnt : Nat} {g : List (At × Int)} {f : Int → Option Value} (h : LA W base mb g cnt f) (e : At × Int) {s s' : Value} (hs : s = .slice none 0 0 ∨ f e.2 = some s) (hsv : (f e.2).getD (.slice none 0 0) = s)
    (k1 : Keeps (fun i => s.ownBlock = some i) W W1) (ho : W1.ownsRow base 58 5 s' ((wrN g e.2).length + 1) (acl (wrN g e.2 ++ [e.1]))) (hob : s'.ownBlock = s.ownBlock ∨ ∃ b, s'.ownBlock = some b ∧ W.heap.size ≤ b)
    (hm : MV W2 mb (if (f e.2).isSome then cnt else cnt + 1) (updV f e.2 s')) (k2 : Keeps (fun i => i = mb) W1 W2) : LA W2 base mb (g ++ [e]) (if (f e.2).isSome then cnt else cnt + 1) (updV f e.2 s') := by
  have nmb : s'.ownBlock ≠ some mb := by
    have hlt : mb < W.heap.size := h.m.lt
    rcases hob with q | ⟨b, q, hb⟩
    · rw [q]
      rcases hs with rfl | hs
      · intro e; cases e
      · rcases h.h e.2 with ⟨e1, _⟩ | ⟨s1, e1, ho1⟩
        · rw [hs] at e1; cases e1
        · rw [hs] at e1; cases e1
          exact row_map ho1 h.m
    · rw [q]
      intro e
      injection e with e
      omega
  refine ⟨hm, ?_, h.b, fun v => ?_, fun v v' hv s1 s2 h1 h2 b hb1 hb2 => ?_⟩
  · rw [List.length_append]
    have := h.n
    show _ ≤ g.length + 1
    split <;> omega
  · unfold updV
    rw [wrN_app, wrN_one2]
    by_cases q : v = e.2
    · subst q
      rw [if_pos rfl, if_pos rfl]
      refine .inr ⟨s', rfl, ?_⟩
      rw [List.length_append]
      exact k2.owns ho (fun b e1 e2 => nmb (by have e2 : b = mb := e2; rw [e1, e2]))
    · rw [if_neg q, if_neg (fun e => q e.symm), List.append_nil]
      rcases h.h v with hh | ⟨s1, e1, ho1⟩
      · exact .inl hh
      · refine .inr ⟨s1, e1, k2.owns (k1.owns ho1 (fun b hb hs2 => ?_)) (fun b hb e2 => ?_)⟩
        · rcases hs with rfl | hs
          · cases hs2
          · exact h.d v e.2 q s1 s e1 hs b hb hs2
        · have e2 : b = mb := e2
          exact row_map ho1 h.m (by rw [hb, e2])
  · unfold updV at h1 h2
    have old : ∀ (v : Int) (s1 : Value), v ≠ e.2 → f v = some s1 → s1.ownBlock = some b → s'.ownBlock ≠ some b := fun v s1 q e1 hb hb' => by
      rcases hob with r | ⟨b2, r, hb2⟩
      · rw [r] at hb'
        rcases hs with rfl | hs
        · cases hb'
        · exact h.d v e.2 q s1 s e1 hs b hb hb'
      · rw [r] at hb'
        injection hb' with hb'
        rcases h.h v with ⟨e2, _⟩ | ⟨s3, e2, ho3⟩
        · rw [e1] at e2; cases e2
        · rw [e1] at e2; cases e2
          have := owns_lt' ho3 b hb
          omega
    by_cases q : v = e.2
    · rw [if_pos (by rw [q])] at h1
      cases h1
      have q2 : v' ≠ e.2 := fun e2 => hv (by rw [q, e2])
      rw [if_neg q2] at h2
      exact old v' s2 q2 h2 hb2 hb1
    · rw [if_neg q] at h1
      by_cases q2 : v' = e.2
      · rw [if_pos (by rw [q2])] at h2
        cases h2
        exact old v s1 q h1 hb1 hb2
      · rw [if_neg q2] at h2
        exact h.d v v' hv s1 s2 h1 h2 b hb1 hb2
/-- An object's writers are looked up. -/
theorem LA.look {W : World} {base mb cnt : Nat} {g : List (At × Int)} {f : Int → Option Value} (h : LA W base mb g cnt f) {x : Int} (hx : I64 x) : ∃ a cap, (Instr.lookup 55 (.map (some mb)) (.int .i64 x) false).run Try.prog W = .ok (.slice a (wrN g x).length cap) W ∧ ATM W a (wrN g x) := by
  obtain ⟨s, e1, ho, -⟩ := h.at x
  have hr := h.m.look underWr (zeroSA W) hx
  rw [e1] at hr
  obtain ⟨a, cap, rfl, hA, -⟩ := atm_of ho
  exact ⟨a, cap, hr, hA⟩
theorem wpList_lookupL {P : Program} {w : World} {ops : Array Oper} {rest : List Oper} {o : Oper} {a : Act} {Q : Exit → Act → World → Prop} (hgd : o.guard = none) (t : TypeId) (x y : Operand) (ho : o.op = .lookup t x y false) (m k : Value) (hx : a.eval x = m) (hy : a.eval y = k) (v : Value) (hr : (Instr.lookup t m k false).run P w = .ok v w) (h : wpList P ops Q rest (a.put o.dst v) w) : wpList P ops Q (o :: rest) a w :=
  wpList_plain hgd fun _ hK => wp_lookupK t x y ho m k hx hy v hr (hK _ _ h)
theorem wpList_updateL {P : Program} {w w' : World} {ops : Array Oper} {rest : List Oper} {o : Oper} {a : Act} {Q : Exit → Act → World → Prop} (hgd : o.guard = none) (t : TypeId) (x y z : Operand) (ho : o.op = .mapUpdate t x y z) (m k v : Value) (hx : a.eval x = m) (hy : a.eval y = k) (hz : a.eval z = v) (hr : (Instr.mapUpdate t m k v).run P w = .ok () w') (h : wpList P ops Q rest (a.put o.dst undef) w') : wpList P ops Q (o :: rest) a w :=
  wpList_plain hgd fun _ hK => wp_updateK t x y z ho m k v hx hy hz hr (hK _ _ h)
/-- The first loops' step: a writer is laid into the map. -/
theorem LA.step {W : World} {base mb cnt : Nat} {g : List (At × Int)} {f : Int → Option Value} (h : LA W base mb g cnt f) (t : At) {x : Int} (hx : I64 x) (hg : g.length ≤ 1048576) :
    ∃ s a' c' W1 W2 cnt' f', (Instr.lookup 55 (.map (some mb)) (.int .i64 x) false).run Try.prog W = .ok s W ∧
      (Builtin.append_ #[41, 41] 41 #[s, .slice (some ⟨W.heap.size, 0, none⟩) 1 1]).run Try.prog (W.alloc (.cells t.cells.toArray 58)) = .ok (.slice a' ((wrN g x).length + 1) c') W1 ∧
      (Instr.mapUpdate 55 (.map (some mb)) (.int .i64 x) (.slice a' ((wrN g x).length + 1) c')).run Try.prog W1 = .ok () W2 ∧
      LA W2 base mb (g ++ [(t, x)]) cnt' f' ∧ Keeps (fun i => i = mb ∨ ∃ y u, f y = some u ∧ u.ownBlock = some i) W W2 ∧
      (∀ y u, f' y = some u → (∃ y' u', f y' = some u' ∧ u.ownBlock = u'.ownBlock) ∨ u.ownBlock = none ∨ ∃ b, u.ownBlock = some b ∧ W.heap.size ≤ b) := by
  obtain ⟨s, e1, ho0, hs⟩ := h.at x
  have hlook := h.m.look underWr (zeroSA W) hx
  rw [e1] at hlook
  have hlt := h.m.lt
  have hbs : base ≤ W.heap.size := Nat.le_trans h.b (Nat.le_of_lt hlt)
  have hwl := wrN_len g x
  obtain ⟨s', W1, hr1, ho1, kq, hbq⟩ := append_a ho0 hbs (by omega) t
  have nM : s.ownBlock ≠ some mb := row_map ho0 h.m
  obtain ⟨W2, hup, hmv2, k2⟩ := (h.m.keep kq nM).put underWr hx s' (by have := h.n; omega)
  have hN := h.next (t, x) hs e1 kq ho1 (hbq.imp id (fun e => ⟨_, e, by omega⟩)) hmv2 k2
  obtain ⟨a', c', rfl, -⟩ := own_slice ho1
  refine ⟨s, a', c', W1, W2, _, _, hlook, hr1, hup, hN, kq.trans' k2 (fun i _ e => ?_) (fun i _ e => .inl e), fun y u hu => ?_⟩
  · rcases hs with rfl | hs
    · cases e
    · exact .inr ⟨x, s, hs, e⟩
  · unfold updV at hu
    by_cases c : y = x
    · rw [if_pos c] at hu
      cases hu
      rcases hbq with q | q
      · rcases hs with rfl | hs
        · exact .inr (.inl q)
        · exact .inl ⟨x, s, hs, q⟩
      · exact .inr (.inr ⟨_, q, by omega⟩)
    · rw [if_neg c] at hu
      exact .inl ⟨y, u, hu, rfl⟩
/-- Edges behind edges. -/
theorem append_el {W : World} {base base2 k n : Nat} {v src : Value} {l m : List Ed} (hown : W.ownsRow base 34 4 v k (ecl l)) (hsrc : W.ownsRow base2 34 4 src n (ecl m)) (hb : base ≤ W.heap.size) (hk : (k + n) * 32 ≤ 140737488355328) :
    ∃ v' w', (Builtin.append_ #[23, 23] 23 #[v, src]).run Try.prog W = .ok v' w' ∧ w'.ownsRow base 34 4 v' (k + n) (ecl (l ++ m)) ∧ Keeps (fun i => v.ownBlock = some i) W w' ∧ (v'.ownBlock = v.ownBlock ∨ v'.ownBlock = some W.heap.size) := by
  obtain ⟨i0, hi0, hzz⟩ := Option.map_eq_some_iff.1 iE
  simp only [Prod.mk.injEq] at hzz
  obtain ⟨hz0, hz1, hz2⟩ := hzz
  have hml := hsrc.1
  rw [ecl_len] at hml
  obtain ⟨a, cap, rfl, hc, -⟩ := own_slice hsrc
  have ea : ecl (l ++ m) = ecl l ++ ecl m := by unfold ecl; rw [List.flatMap_append]
  cases a with
  | none =>
    have h0 : m = [] := by
      cases m with
      | nil => rfl
      | cons c m =>
        obtain ⟨g, e, _⟩ := hc 0 _ (ecl_get (c :: m) 0 (by simp) 0 _ rfl)
        cases e
    subst h0
    have hn0 : n = 0 := by simp at hml; omega
    subst hn0
    have hcap : cap = 0 := by
      rcases hsrc.2 with ⟨e, -⟩ | ⟨g, c, cur, e, -⟩
      · exact (Value.slice.inj e).2.2
      · exact nomatch (Value.slice.inj e).1
    subst hcap
    refine ⟨v, W, run_append_owned_none (P := Try.prog) (w := W) base 23 23 34 i0 4 uE hi0 v k (ecl l) hown, ?_, Keeps.refl _ _, .inl rfl⟩
    rw [ea, Nat.add_zero]
    simpa [ecl] using hown
  | some p =>
    obtain ⟨v', w', hr, ho, hg, _, hbl⟩ := run_append_own_at (P := Try.prog) (w := W) base 23 23 34 i0 _ 4 32 uE hi0 hz0 hz1 hz2 rfl (by decide) v k (ecl l) hown p n cap (ecl m) (by rw [ecl_len]; omega) (fun j y hy => by
      obtain ⟨g, e, hg⟩ := hc j y hy
      injection e with e
      subst e
      rw [add_atT, Nat.zero_add]
      exact hg) (ed_one m) (by unfold maxLen; omega) (by omega) hb
    refine ⟨v', w', hr, ?_, (Keeps.refl _ W).grown hg (fun i _ e => e), hbl⟩
    rw [ea]
    exact ho
end Go.Proofs.Ythmlppepgcjfgaa
