import Derived.Test.YtehblpbefkopbaaDoorTxSt
import Derived.Maps.AppendAt
import Derived.Great.BuildSlice
namespace Go.Proofs.YtehblpbefkopbaaDoor
open Go.RowKit
theorem add_atT (b o j : Nat) : (⟨b, o, none⟩ : Addr).add j = ⟨b, o + j, none⟩ := Addr.add_mid b o j
theorem append_sz {t e : TypeId} {z : Value} {size bytes : Nat} (ht : Tryd.prog.underlying t = some (.slice e)) (hinfo : (Tryd.prog.info? e).map (fun i => (i.zero, i.size, i.bytes)) = some (some z, size, bytes)) (hz : z.cells.size = size) (hs : 0 < size) {W : World} {base k : Nat} {v : Value} {xs : List Value} (hown : W.ownsRow base e size v k xs) (hb : base ≤ W.heap.size) (hb0 : 0 < bytes) (hk : (k + 1) * bytes ≤ 140737488355328) (q : List Value) (hq : q.length = size) (h1 : ∀ u ∈ q, u.oneCell' = true) :
    ∃ v' w', (Builtin.append_ #[t, t] t #[v, .slice (some ⟨W.heap.size, 0, none⟩) 1 1]).run Tryd.prog (W.alloc (.cells q.toArray e)) = .ok v' w' ∧ w'.ownsRow base e size v' (k + 1) (xs ++ q) ∧ Keeps (fun i => v.ownBlock = some i) W w' ∧ (v'.ownBlock = v.ownBlock ∨ v'.ownBlock = some (W.heap.size + 1)) := by
  obtain ⟨i0, hi0, hzz⟩ := Option.map_eq_some_iff.1 hinfo
  simp only [Prod.mk.injEq] at hzz
  obtain ⟨hz0, hz1, hz2⟩ := hzz
  have hk2 : k + 1 ≤ 140737488355328 := Nat.le_trans (Nat.le_mul_of_pos_right _ hb0) hk
  obtain ⟨v', w', hr, ho, hg, _, hbl⟩ := run_append_own_at (P := Tryd.prog) (w := W.alloc (.cells q.toArray e)) base t t e i0 _ size bytes ht hi0 hz0 hz1 hz2 hz hs v k xs (((Keeps.refl (fun _ => False) W).alloc _).owns hown (fun _ _ e => e)) ⟨W.heap.size, 0, none⟩ 1 1 q (by omega) (fun j y hy => by
      rw [add_atT]
      have := (CL.made W q e).c j y hy
      simpa using this) h1 (by unfold maxLen; omega) (by omega) (Nat.le_trans hb (by simp))
  exact ⟨v', w', hr, ho, ((Keeps.refl _ W).alloc _).grown hg (fun i _ e => e), by simpa using hbl⟩
theorem own_slice {W : World} {base n size : Nat} {e : TypeId} {v : Value} {l : List Value} (h : W.ownsRow base e size v n l) : ∃ a cap, v = .slice a n cap ∧ (∀ j u, l[j]? = some u → ∃ g, a = some ⟨g, 0, none⟩ ∧ W.cell? ⟨g, j, none⟩ = some u) ∧ (∀ g, v.ownBlock = some g → a = some ⟨g, 0, none⟩) ∧ (∀ g off, a = some ⟨g, off, none⟩ → off = 0 ∧ v.ownBlock = some g) := by
  have hlen := h.1
  rcases h.2 with ⟨rfl, h0⟩ | ⟨g, cap, cur, rfl, _⟩
  · have hz : n = 0 := by first | exact h0.1 | omega
    subst hz
    refine ⟨none, 0, rfl, fun j u e => ?_, (fun g e => by cases e), fun g off e => by cases e⟩
    have := (List.getElem?_eq_some_iff.1 e).1
    omega
  · refine ⟨_, cap, rfl, fun j u e => ⟨g, rfl, ?_⟩, fun g' e => by cases e; rfl, fun g' off e => by cases e; exact ⟨rfl, rfl⟩⟩
    have := h.cells (g := g) rfl j u e
    rw [add_atT, Nat.zero_add] at this
    exact this
theorem owns_low {W : World} {base base' n size : Nat} {e : TypeId} {v : Value} {l : List Value} (h : W.ownsRow base e size v n l) (hb : base' ≤ base) : W.ownsRow base' e size v n l := by
  refine ⟨h.1, ?_⟩
  rcases h.2 with h0 | ⟨g, cap, cur, rfl, hbg, rest⟩
  · exact .inl h0
  · exact .inr ⟨g, cap, cur, rfl, Nat.le_trans hb hbg, rest⟩
theorem owns_baseT {w : World} {base : Nat} {e : TypeId} {size : Nat} {v : Value} {n : Nat} {xs : List Value} (h : w.ownsRow base e size v n xs) (k : Nat) (hk : v.ownBlock = some k) : base ≤ k := by
  rcases h.2 with ⟨rfl, _⟩ | ⟨g, cap, cur, rfl, hb, _⟩
  · cases hk
  · cases hk
    exact hb
theorem wpList_append_tL {P : Program} {w : World} {ops : Array Oper} {rest : List Oper} {o : Oper} {a : Act} {Q : Exit → Act → World → Prop} (hgd : o.guard = none) (s x : Operand) (t : TypeId)
    (ho : o.op = .call { callee := .builtin .append, args := #[s, x], argTypes := #[t, t] }) (v src v' : Value) (w' : World) (hs : a.eval s = v) (hx : a.eval x = src)
    (hr : (Builtin.append_ #[t, t] o.type #[v, src]).run P w = .ok v' w') (h : wpList P ops Q rest (a.put o.dst v') w') : wpList P ops Q (o :: rest) a w :=
  wpList_plain hgd fun _ hK => by
    unfold Oper.wp execOp
    simp only [ho, resolve, invoke, builtin, Sem.run_bind, Sem.run_pure, Result.andThen_ok, List.map_toArray, List.map_cons, List.map_nil, hs, hx, hr]
    exact hK _ _ h
theorem wpList_load_runL {P : Program} {w : World} {ops : Array Oper} {rest : List Oper} {o : Oper} {a : Act} {Q : Exit → Act → World → Prop} (hgd : o.guard = none) (ty : TypeId) (x : Operand) (ho : o.op = .load ty x) (p : Addr) (hx : a.eval x = .pointer (some p)) (v : Value) (hr : (loadVar ty p).run P w = .ok v w) (h : wpList P ops Q rest (a.put o.dst v) w) : wpList P ops Q (o :: rest) a w :=
  wpList_plain hgd fun _ hK => by
    unfold Oper.wp execOp
    simp only [ho, hx, Instr.loadAt, Instr.sureAddr, Sem.run_bind, Sem.run_pure, Result.andThen_ok, hr]
    exact hK _ _ h
theorem own_clL {W : World} {base n size g cap : Nat} {e : TypeId} {l : List Value} (h : W.ownsRow base e size (.slice (some ⟨g, 0, none⟩) n cap) n l) : CL W g l := by
  have hc := h.cells (g := g) rfl
  rcases h.2 with ⟨e, _⟩ | ⟨g', cap', cur, e, hbg, hg, _⟩
  · cases e
  · injection e with e1 _ e2
    injection e1 with e1
    injection e1 with e1 _ _
    subst e1
    refine ⟨fun o v e => ?_, fun o _ => by simp [World.frozen?, hg]⟩
    have := hc o v e
    rw [add_atT, Nat.zero_add] at this
    exact this
/-- Rows of unlike sorts lie apart. -/
theorem own_apart {W : World} {b1 b2 s1 s2 n1 n2 : Nat} {e1 e2 : TypeId} {v1 v2 : Value} {l1 l2 : List Value} (h1 : W.ownsRow b1 e1 s1 v1 n1 l1) (h2 : W.ownsRow b2 e2 s2 v2 n2 l2) (he : e1 ≠ e2) : ∀ g, v1.ownBlock = some g → v2.ownBlock ≠ some g := by
  intro g q1 q2
  rcases h1.2 with ⟨rfl, -⟩ | ⟨g1, c1, u1, rfl, -, x1, -⟩
  · cases q1
  rcases h2.2 with ⟨rfl, -⟩ | ⟨g2, c2, u2, rfl, -, x2, -⟩
  · cases q2
  have q1 : some g1 = some g := q1
  have q2 : some g2 = some g := q2
  injection q1 with q1
  injection q2 with q2
  subst q1 q2
  rw [x1] at x2
  injection x2 with x2
  injection x2 with _ x2
  exact he x2
/-- A slice literal of one call. -/
theorem wpList_build1L {t e : TypeId} {z : Value} {size bytes : Nat} (ht : Tryd.prog.underlying t = some (.slice e)) (hinfo : (Tryd.prog.info? e).map (fun i => (i.zero, i.size, i.bytes)) = some (some z, size, bytes)) (hs : 0 < size) (hs2 : size ≤ 100) {ops : Array Oper} {rest : List Oper} {o : Oper} {a : Act} {w : World} {Q : Exit → Act → World → Prop} (hg : o.guard = none) (x : Operand) (ho : o.op = .buildSlice t 1 #[(0, x)]) (cs : List Value) (hc : cs.length = size) (hx : a.eval x = .agg cs.toArray)
    (h : wpList Tryd.prog ops Q rest (a.put o.dst (.slice (some ⟨w.heap.size, 0, none⟩) 1 1)) (w.alloc (.cells cs.toArray e))) : wpList Tryd.prog ops Q (o :: rest) a w := by
  obtain ⟨i0, hi0, hzz⟩ := Option.map_eq_some_iff.1 hinfo
  simp only [Prod.mk.injEq] at hzz
  obtain ⟨hz0, hz1, -⟩ := hzz
  refine wpList_buildSlice hg t e 1 _ ho cs.toArray i0 _ ht hi0 hz0 (by rw [hz1]; omega) (by rw [hz1]; omega) ?_ h
  rw [hz1]
  have e : (#[(0, x)].map fun (i, x) => (i, a.eval x)).toList = ([Value.agg cs.toArray].zipIdx 0).map fun x => (x.2, x.1) := by simp [hx]
  have e2 : ([Value.agg cs.toArray].flatMap fun v => v.cells.toList).toArray = cs.toArray := by simp [Value.cells]
  rw [e, Great.fill_whole (s := size) hs [Value.agg cs.toArray] _ (fun v hv => by
    simp at hv
    subst hv
    simpa [Value.cells] using hc) (by simp), e2]
end Go.Proofs.YtehblpbefkopbaaDoor
