import Derived.Test.YtgcfckbmmdajhaaLkI
namespace Go.Proofs.Ytgcfckbmmdajhaa
open Go.RowKit
/-- Rows of unlike sorts lie apart. -/
theorem own_apart {W : World} {b1 b2 s1 s2 n1 n2 : Nat} {e1 e2 : TypeId} {v1 v2 : Value} {l1 l2 : List Value} (h1 : W.ownsRow b1 e1 s1 v1 n1 l1) (h2 : W.ownsRow b2 e2 s2 v2 n2 l2) (he : e1 ≠ e2) : ∀ g, v1.ownBlock = some g → v2.ownBlock ≠ some g := by
  intro g q1 q2
  rcases h1.2 with ⟨rfl, -⟩ | ⟨g1, c1, u1, rfl, -, x1, -⟩
  · cases q1
  rcases h2.2 with ⟨rfl, -⟩ | ⟨g2, c2, u2, rfl, -, x2, -⟩
  · cases q2
  have q1 : some g1 = some g := q1
  have q2 : some g2 = some g := q2
  injection q1 with q1
  injection q2 with q2
  subst q1 q2
  rw [x1] at x2
  injection x2 with x2
  injection x2 with _ x2
  exact he x2
theorem run_store_boolL {w : World} {b o : Nat} (hc : (w.cell? ⟨b, o, none⟩).isSome = true) (hz : w.frozen? ⟨b, o, none⟩ = false) (v : Bool) : (storeVar 4 ⟨b, o, none⟩ (.bool v)).run Try.prog w = .ok () (w.setCell ⟨b, o, none⟩ (.bool v)) := by
  obtain ⟨u, hu⟩ := Option.isSome_iff_exists.1 hc
  go_simp
theorem run_store_i64L {w : World} {b o : Nat} (hc : (w.cell? ⟨b, o, none⟩).isSome = true) (hz : w.frozen? ⟨b, o, none⟩ = false) (v : Int) : (storeVar 2 ⟨b, o, none⟩ (.int .i64 v)).run Try.prog w = .ok () (w.setCell ⟨b, o, none⟩ (.int .i64 v)) := by
  obtain ⟨u, hu⟩ := Option.isSome_iff_exists.1 hc
  go_simp
/-- A store of a Bool into a block. -/
theorem wpList_store_bL {w : World} {ops : Array Oper} {rest : List Oper} {o : Oper} {a : Act} {Q : Exit → Act → World → Prop} (hgd : o.guard = none) (hd : o.dst = none) (x y : Operand) (ho : o.op = .store 4 x y) (b off : Nat) (hx : a.eval x = .pointer (some ⟨b, off, none⟩)) (v : Bool) (hy : a.eval y = .bool v)
    {l : List Value} (hB : CL w b l) (hl : off < l.length) (h : ∀ w1, CL w1 b (l.set off (.bool v)) → Keeps (fun k => k = b) w w1 → wpList Try.prog ops Q rest a w1) : wpList Try.prog ops Q (o :: rest) a w :=
  wpList_plain hgd fun _ hK => by
    unfold Oper.wp execOp
    simp only [ho, hx, hy, Instr.storeAt, Instr.sureAddr, Sem.run_bind, Sem.run_pure, Result.andThen_ok, run_store_boolL (by rw [hB.c off _ (List.getElem?_eq_getElem hl)]; rfl) (hB.z off hl) v]
    refine hK _ _ ?_
    rw [hd]
    exact (h _ (hB.set hl _) ((Keeps.refl (fun k => k = b) w).setCell (p := ⟨b, off, none⟩) (fun _ => rfl) _))
/-- A store of a number into a block. -/
theorem wpList_store_kL {w : World} {ops : Array Oper} {rest : List Oper} {o : Oper} {a : Act} {Q : Exit → Act → World → Prop} (hgd : o.guard = none) (hd : o.dst = none) (x y : Operand) (ho : o.op = .store 2 x y) (b off : Nat) (hx : a.eval x = .pointer (some ⟨b, off, none⟩)) (v : Int) (hy : a.eval y = .int .i64 v)
    {l : List Value} (hB : CL w b l) (hl : off < l.length) (h : ∀ w1, CL w1 b (l.set off (.int .i64 v)) → Keeps (fun k => k = b) w w1 → wpList Try.prog ops Q rest a w1) : wpList Try.prog ops Q (o :: rest) a w :=
  wpList_plain hgd fun _ hK => by
    unfold Oper.wp execOp
    simp only [ho, hx, hy, Instr.storeAt, Instr.sureAddr, Sem.run_bind, Sem.run_pure, Result.andThen_ok, run_store_i64L (by rw [hB.c off _ (List.getElem?_eq_getElem hl)]; rfl) (hB.z off hl) v]
    refine hK _ _ ?_
    rw [hd]
    exact (h _ (hB.set hl _) ((Keeps.refl (fun k => k = b) w).setCell (p := ⟨b, off, none⟩) (fun _ => rfl) _))
/-- The same, into a row of one's own. -/
theorem wpList_store_bR {w : World} {ops : Array Oper} {rest : List Oper} {o : Oper} {a : Act} {Q : Exit → Act → World → Prop} (hgd : o.guard = none) (hd : o.dst = none) (x y : Operand) (ho : o.op = .store 4 x y) (g j : Nat) (hx : a.eval x = .pointer (some ⟨g, j, none⟩)) (v : Bool) (hy : a.eval y = .bool v)
    {base n cap size : Nat} {e : TypeId} {L : List Value} (hO : w.ownsRow base e size (.slice (some ⟨g, 0, none⟩) n cap) n L) (hj : j < L.length) (h : ∀ w1, w1.ownsRow base e size (.slice (some ⟨g, 0, none⟩) n cap) n (L.set j (.bool v)) → Keeps (fun k => k = g) w w1 → wpList Try.prog ops Q rest a w1) : wpList Try.prog ops Q (o :: rest) a w := by
  have hB := own_clL hO
  exact wpList_plain hgd fun _ hK => by
    unfold Oper.wp execOp
    simp only [ho, hx, hy, Instr.storeAt, Instr.sureAddr, Sem.run_bind, Sem.run_pure, Result.andThen_ok, run_store_boolL (by rw [hB.c j _ (List.getElem?_eq_getElem hj)]; rfl) (hB.z j hj) v]
    refine hK _ _ ?_
    rw [hd]
    exact h _ (hO.stored j (.bool v)).1 ((Keeps.refl (fun k => k = g) w).setCell (p := ⟨g, j, none⟩) (fun _ => rfl) _)
theorem wpList_store_kR {w : World} {ops : Array Oper} {rest : List Oper} {o : Oper} {a : Act} {Q : Exit → Act → World → Prop} (hgd : o.guard = none) (hd : o.dst = none) (x y : Operand) (ho : o.op = .store 2 x y) (g j : Nat) (hx : a.eval x = .pointer (some ⟨g, j, none⟩)) (v : Int) (hy : a.eval y = .int .i64 v)
    {base n cap size : Nat} {e : TypeId} {L : List Value} (hO : w.ownsRow base e size (.slice (some ⟨g, 0, none⟩) n cap) n L) (hj : j < L.length) (h : ∀ w1, w1.ownsRow base e size (.slice (some ⟨g, 0, none⟩) n cap) n (L.set j (.int .i64 v)) → Keeps (fun k => k = g) w w1 → wpList Try.prog ops Q rest a w1) : wpList Try.prog ops Q (o :: rest) a w := by
  have hB := own_clL hO
  exact wpList_plain hgd fun _ hK => by
    unfold Oper.wp execOp
    simp only [ho, hx, hy, Instr.storeAt, Instr.sureAddr, Sem.run_bind, Sem.run_pure, Result.andThen_ok, run_store_i64L (by rw [hB.c j _ (List.getElem?_eq_getElem hj)]; rfl) (hB.z j hj) v]
    refine hK _ _ ?_
    rw [hd]
    exact h _ (hO.stored j (.int .i64 v)).1 ((Keeps.refl (fun k => k = g) w).setCell (p := ⟨g, j, none⟩) (fun _ => rfl) _)
/-- The cells of a list of calls, one of which is turned. -/
theorem ccl_cell {l : List Cl} {k j : Nat} (hk : k < l.length) (hj : j < 8) : (ccl l)[k * 8 + j]? = (l.getD k cl0).cells[j]? := by
  induction l generalizing k with
  | nil => exact absurd hk (Nat.not_lt_zero _)
  | cons c l ih =>
    cases k with
    | zero =>
      show (c.cells ++ ccl l)[0 * 8 + j]? = c.cells[j]?
      rw [List.getElem?_append_left (by show 0 * 8 + j < 8; omega)]
      congr 1
      omega
    | succ k =>
      show (c.cells ++ ccl l)[(k + 1) * 8 + j]? = (l.getD k cl0).cells[j]?
      rw [List.getElem?_append_right (by show 8 ≤ (k + 1) * 8 + j; omega), show (k + 1) * 8 + j - c.cells.length = k * 8 + j by show (k + 1) * 8 + j - 8 = _; omega]
      exact ih (by simpa using hk)
theorem ccl_set {l : List Cl} {k : Nat} (hk : k < l.length) {c : Cl} {j : Nat} {v : Value} (hj : j < 8) (hc : c.cells = (l.getD k cl0).cells.set j v) : (ccl l).set (k * 8 + j) v = ccl (l.set k c) := by
  induction l generalizing k with
  | nil => exact absurd hk (Nat.not_lt_zero _)
  | cons d l ih =>
    cases k with
    | zero =>
      show (d.cells ++ ccl l).set (0 * 8 + j) v = c.cells ++ ccl l
      rw [List.set_append_left _ _ (by show 0 * 8 + j < 8; omega), hc]
      congr 2
      omega
    | succ k =>
      show (d.cells ++ ccl l).set ((k + 1) * 8 + j) v = d.cells ++ ccl (l.set k c)
      rw [List.set_append_right _ _ (by show 8 ≤ (k + 1) * 8 + j; omega), show (k + 1) * 8 + j - d.cells.length = k * 8 + j by show (k + 1) * 8 + j - 8 = _; omega]
      rw [ih (by simpa using hk) hc]
theorem trn_cells_y (c : Cl) (y : Bool) : (trn c y c.result).cells = c.cells.set 3 (.bool y) := rfl
theorem trn_cells_r (c : Cl) (y : Bool) (r : Int) : (trn c y r).cells = (trn c y c.result).cells.set 4 (.int .i64 r) := rfl
/-- A slice literal of one call. -/
theorem wpList_build1L {t e : TypeId} {z : Value} {size bytes : Nat} (ht : Try.prog.underlying t = some (.slice e)) (hinfo : (Try.prog.info? e).map (fun i => (i.zero, i.size, i.bytes)) = some (some z, size, bytes)) (hs : 0 < size) (hs2 : size ≤ 100) {ops : Array Oper} {rest : List Oper} {o : Oper} {a : Act} {w : World} {Q : Exit → Act → World → Prop} (hg : o.guard = none) (x : Operand) (ho : o.op = .buildSlice t 1 #[(0, x)]) (cs : List Value) (hc : cs.length = size) (hx : a.eval x = .agg cs.toArray)
    (h : wpList Try.prog ops Q rest (a.put o.dst (.slice (some ⟨w.heap.size, 0, none⟩) 1 1)) (w.alloc (.cells cs.toArray e))) : wpList Try.prog ops Q (o :: rest) a w := by
  obtain ⟨i0, hi0, hzz⟩ := Option.map_eq_some_iff.1 hinfo
  simp only [Prod.mk.injEq] at hzz
  obtain ⟨hz0, hz1, -⟩ := hzz
  refine wpList_buildSlice hg t e 1 _ ho cs.toArray i0 _ ht hi0 hz0 (by rw [hz1]; omega) (by rw [hz1]; omega) ?_ h
  rw [hz1]
  have e : (#[(0, x)].map fun (i, x) => (i, a.eval x)).toList = ([Value.agg cs.toArray].zipIdx 0).map fun x => (x.2, x.1) := by simp [hx]
  have e2 : ([Value.agg cs.toArray].flatMap fun v => v.cells.toList).toArray = cs.toArray := by simp [Value.cells]
  rw [e, Great.fill_whole (s := size) hs [Value.agg cs.toArray] _ (fun v hv => by
    simp at hv
    subst hv
    simpa [Value.cells] using hc) (by simp), e2]
end Go.Proofs.Ytgcfckbmmdajhaa
