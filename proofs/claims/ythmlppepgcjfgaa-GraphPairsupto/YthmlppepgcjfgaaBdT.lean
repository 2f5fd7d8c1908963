import Derived.Test.YthmlppepgcjfgaaBdS
namespace Go.Proofs.Ythmlppepgcjfgaa
open Go.RowKit Go.Deep
attribute [local go_sem] Oper.semAt_some run_store_nf run_store_f
theorem run_store_sl {w : World} {b o : Nat} {ty : TypeId} (ht : ty = 29 ∨ ty = 30) (hc : (w.cell? ⟨b, o, none⟩).isSome = true) (hz : w.frozen? ⟨b, o, none⟩ = false) (a : Option Addr) (n c : Nat) : (storeVar ty ⟨b, o, none⟩ (.slice a n c)).run Try.prog w = .ok () (w.setCell ⟨b, o, none⟩ (.slice a n c)) := by
  obtain ⟨u, hu⟩ := Option.isSome_iff_exists.1 hc
  rcases ht with rfl | rfl <;> go_simp
theorem wpList_store_s1 {w : World} {ops : Array Oper} {rest : List Oper} {o : Oper} {a : Act} {Q : Exit → Act → World → Prop} (hgd : o.guard = none) (hd : o.dst = none) (ty : TypeId) (ht : ty = 29 ∨ ty = 30) (x y : Operand) (ho : o.op = .store ty x y) (b off : Nat) (hx : a.eval x = .pointer (some ⟨b, off, none⟩)) (sa : Option Addr) (sn sc : Nat) (hy : a.eval y = .slice sa sn sc)
    {l : List Value} (hB : CL w b l) (hl : off < l.length) (h : ∀ w1, CL w1 b (l.set off (.slice sa sn sc)) → Keeps (fun k => k = b) w w1 → w1.heap.size = w.heap.size → wpList Try.prog ops Q rest a w1) : wpList Try.prog ops Q (o :: rest) a w :=
  wpList_plain hgd fun _ hK => by
    unfold Oper.wp execOp
    simp only [ho, hx, hy, Instr.storeAt, Instr.sureAddr, Sem.run_bind, Sem.run_pure, Result.andThen_ok, run_store_sl ht (by rw [hB.c off _ (List.getElem?_eq_getElem hl)]; rfl) (hB.z off hl) sa sn sc]
    refine hK _ _ ?_
    rw [hd]
    exact (h _ (hB.set hl _) ((Keeps.refl (fun k => k = b) w).setCell (p := ⟨b, off, none⟩) (fun _ => rfl) _) (by simp))
theorem run_store_int {w : World} {b o : Nat} (hc : (w.cell? ⟨b, o, none⟩).isSome = true) (hz : w.frozen? ⟨b, o, none⟩ = false) (v : Int) : (storeVar 3 ⟨b, o, none⟩ (.int .i64 v)).run Try.prog w = .ok () (w.setCell ⟨b, o, none⟩ (.int .i64 v)) := by
  obtain ⟨u, hu⟩ := Option.isSome_iff_exists.1 hc
  go_simp
theorem wpList_store_c1 {w : World} {ops : Array Oper} {rest : List Oper} {o : Oper} {a : Act} {Q : Exit → Act → World → Prop} (hgd : o.guard = none) (hd : o.dst = none) (x y : Operand) (ho : o.op = .store 3 x y) (b off : Nat) (hx : a.eval x = .pointer (some ⟨b, off, none⟩)) (v : Int) (hy : a.eval y = .int .i64 v)
    {l : List Value} (hB : CL w b l) (hl : off < l.length) (h : ∀ w1, CL w1 b (l.set off (.int .i64 v)) → Keeps (fun k => k = b) w w1 → wpList Try.prog ops Q rest a w1) : wpList Try.prog ops Q (o :: rest) a w :=
  wpList_plain hgd fun _ hK => by
    unfold Oper.wp execOp
    simp only [ho, hx, hy, Instr.storeAt, Instr.sureAddr, Sem.run_bind, Sem.run_pure, Result.andThen_ok, run_store_int (by rw [hB.c off _ (List.getElem?_eq_getElem hl)]; rfl) (hB.z off hl) v]
    refine hK _ _ ?_
    rw [hd]
    exact (h _ (hB.set hl _) ((Keeps.refl (fun k => k = b) w).setCell (p := ⟨b, off, none⟩) (fun _ => rfl) _))
set_option maxRecDepth 100000 in
/-- A copy of a list. -/
theorem copy_gen {t e : TypeId} {z : Value} {size bytes : Nat} (ht : Try.prog.underlying t = some (.slice e)) (hinfo : (Try.prog.info? e).map (fun i => (i.zero, i.size, i.bytes)) = some (some z, size, bytes)) (hz : z.cells.size = size) (hs : 0 < size) (hb0 : 0 < bytes) {W : World} {a : Option Addr} {cap n : Nat} {cs : List Value} (hl : cs.length = n * size) (h1 : ∀ u ∈ cs, u.oneCell' = true) (hc : ∀ j y, cs[j]? = some y → ∃ b off, a = some ⟨b, off, none⟩ ∧ W.cell? ⟨b, off + j, none⟩ = some y) (hza : a = none → cap = 0) (hn : n * bytes ≤ 140737488355328) :
    ∃ a' c' W', (Builtin.append_ #[t, t] t #[.slice (some ⟨W.heap.size, 0, none⟩) 0 0, .slice a n cap]).run Try.prog (W.alloc (.cells #[] e)) = .ok (.slice a' n c') W' ∧ W'.ownsRow W.heap.size e size (.slice a' n c') n cs ∧ Keeps (fun _ => False) W W' := by
  obtain ⟨i0, hi0, hzz⟩ := Option.map_eq_some_iff.1 hinfo
  simp only [Prod.mk.injEq] at hzz
  obtain ⟨hz0, hz1, hz2⟩ := hzz
  have k0 : Keeps (fun _ => False) W (W.alloc (.cells #[] e)) := (Keeps.refl _ W).alloc _
  have o0 : (W.alloc (.cells #[] e)).ownsRow W.heap.size e size (.slice (some ⟨W.heap.size, 0, none⟩) 0 0) 0 [] := ⟨by simp, .inr ⟨W.heap.size, 0, #[], rfl, Nat.le_refl _, by rw [show (W.alloc (.cells #[] e)).heap = W.heap.push (.cells #[] e) from rfl]; simp, Nat.le_refl _, by unfold maxLen; omega, by simp, by simp⟩⟩
  cases a with
  | none =>
    have hl0 : cs = [] := by
      cases cs with
      | nil => rfl
      | cons c l =>
        obtain ⟨b, off, e, _⟩ := hc 0 c rfl
        cases e
    subst hl0
    have hn0 : n = 0 := by
      rcases Nat.eq_zero_or_pos n with h | h
      · exact h
      · have := Nat.mul_pos h hs
        simp at hl
        omega
    subst hn0
    rw [hza rfl]
    exact ⟨_, _, _, run_append_owned_none (P := Try.prog) (w := W.alloc (.cells #[] e)) W.heap.size t t e i0 size ht hi0 _ 0 [] o0, o0, k0⟩
  | some p =>
    have hn2 : n ≤ 140737488355328 := Nat.le_trans (Nat.le_mul_of_pos_right _ hb0) hn
    obtain ⟨v', w', hr, ho, hgr, _, _⟩ := run_append_own_at (P := Try.prog) (w := W.alloc (.cells #[] e)) W.heap.size t t e i0 _ size bytes ht hi0 hz0 hz1 hz2 hz hs _ 0 [] o0 p n cap cs hl (fun j y hy => by
      obtain ⟨b, off, e, hcc⟩ := hc j y hy
      injection e with e
      subst e
      rw [add_atT]
      exact k0.cell hcc (fun e => e)) h1 (by unfold maxLen; omega) (by rw [Nat.zero_add]; exact hn) k0.size
    rw [Nat.zero_add, List.nil_append] at ho
    obtain ⟨a', c', rfl, -⟩ := own_slice ho
    exact ⟨a', c', w', hr, ho, k0.trans' ((Keeps.refl _ _).grown hgr (S := fun i => i = W.heap.size) (fun i _ e => by simp [Value.ownBlock] at e; exact e.symm)) (fun _ _ e => e) (fun i hi e => by have e : i = W.heap.size := e; omega)⟩
def swc (l : List Sw) : List Value := l.flatMap Sw.cells
theorem swc_len : ∀ (l : List Sw), (swc l).length = l.length * 9
  | [] => rfl
  | c :: l => by
    have := swc_len l
    unfold swc at this ⊢
    rw [List.flatMap_cons, List.length_append, this, List.length_cons]
    show 9 + _ = _
    omega
theorem swc_get : ∀ (l : List Sw) (i : Nat), i < l.length → ∀ (j : Nat) (v : Value), (l.getD i sw0).cells[j]? = some v → (swc l)[i * 9 + j]? = some v
  | c :: l, 0, _, j, v, h => by
    have h : c.cells[j]? = some v := h
    have hj : j < 9 := (List.getElem?_eq_some_iff.1 h).1
    unfold swc
    rw [List.flatMap_cons, Nat.zero_mul, Nat.zero_add, List.getElem?_append_left hj]
    exact h
  | c :: l, i + 1, hi, j, v, h => by
    have ih := swc_get l i (by simpa using hi) j v (by simpa using h)
    unfold swc at ih ⊢
    rw [List.flatMap_cons, List.getElem?_append_right (show 9 ≤ (i + 1) * 9 + j by omega)]
    show (l.flatMap Sw.cells)[(i + 1) * 9 + j - 9]? = _
    rw [show (i + 1) * 9 + j - 9 = i * 9 + j by omega]
    exact ih
theorem swc_at {l : List Sw} {t : Nat} (ht : t < l.length * 9) : (swc l)[t]? = (l.getD (t / 9) sw0).cells[t % 9]? := by
  have hi : t / 9 < l.length := by omega
  have hj : t % 9 < (l.getD (t / 9) sw0).cells.length := by show t % 9 < 9; omega
  have := swc_get l (t / 9) hi (t % 9) _ (List.getElem?_eq_getElem hj)
  rw [show t / 9 * 9 + t % 9 = t by omega] at this
  rw [this, List.getElem?_eq_getElem hj]
theorem swc_one (l : List Sw) : ∀ u ∈ swc l, u.oneCell' = true := by
  intro u hu
  unfold swc at hu
  rw [List.mem_flatMap] at hu
  obtain ⟨c, -, hu⟩ := hu
  simp [Sw.cells] at hu
  rcases hu with rfl | rfl | rfl | rfl | rfl | rfl | rfl | rfl | rfl <;> rfl
theorem SWM.of {W : World} {base n : Nat} {a : Option Addr} {cap : Nat} {l : List Sw} (h : W.ownsRow base 46 9 (.slice a n cap) n (swc l)) : SWM W a l := fun i hi => by
  obtain ⟨a', cap', e, hc, -, -⟩ := own_slice h
  injection e with e1 e2 e3
  subst e1
  obtain ⟨g, rfl, _⟩ := hc (i * 9 + 0) _ (swc_get l i hi 0 _ rfl)
  refine ⟨g, 0, rfl, fun j v hv => ?_⟩
  obtain ⟨g', e', hc'⟩ := hc (i * 9 + j) _ (swc_get l i hi j v hv)
  cases e'
  rw [Nat.zero_add]
  exact hc'
theorem SWM.flat {W : World} {a : Option Addr} {l : List Sw} (h : SWM W a l) : ∀ j y, (swc l)[j]? = some y → ∃ b off, a = some ⟨b, off, none⟩ ∧ W.cell? ⟨b, off + j, none⟩ = some y := fun j y hy => by
  have hj : j < l.length * 9 := by rw [← swc_len]; exact (List.getElem?_eq_some_iff.1 hy).1
  obtain ⟨b, off, e, hc⟩ := h (j / 9) (by omega)
  rw [swc_at hj] at hy
  have := hc (j % 9) y hy
  exact ⟨b, off, e, by rw [show off + j = off + j / 9 * 9 + j % 9 by omega]; exact this⟩
theorem SWM.keepS {w w' : World} {a : Option Addr} {l : List Sw} {S : Nat → Prop} (h : SWM w a l) (k : Keeps S w w') (hS : ∀ b off, a = some ⟨b, off, none⟩ → ¬ S b) : SWM w' a l := fun i hi => by
  obtain ⟨b, off, e, hc⟩ := h i hi
  exact ⟨b, off, e, fun j v hv => k.cell (hc j v hv) (hS b off e)⟩
def woc (l : List Wo) : List Value := l.flatMap Wo.cells
theorem woc_len : ∀ (l : List Wo), (woc l).length = l.length * 4
  | [] => rfl
  | c :: l => by
    have := woc_len l
    unfold woc at this ⊢
    rw [List.flatMap_cons, List.length_append, this, List.length_cons]
    show 4 + _ = _
    omega
theorem woc_get : ∀ (l : List Wo) (i : Nat), i < l.length → ∀ (j : Nat) (v : Value), (l.getD i wo0).cells[j]? = some v → (woc l)[i * 4 + j]? = some v
  | c :: l, 0, _, j, v, h => by
    have h : c.cells[j]? = some v := h
    have hj : j < 4 := (List.getElem?_eq_some_iff.1 h).1
    unfold woc
    rw [List.flatMap_cons, Nat.zero_mul, Nat.zero_add, List.getElem?_append_left hj]
    exact h
  | c :: l, i + 1, hi, j, v, h => by
    have ih := woc_get l i (by simpa using hi) j v (by simpa using h)
    unfold woc at ih ⊢
    rw [List.flatMap_cons, List.getElem?_append_right (show 4 ≤ (i + 1) * 4 + j by omega)]
    show (l.flatMap Wo.cells)[(i + 1) * 4 + j - 4]? = _
    rw [show (i + 1) * 4 + j - 4 = i * 4 + j by omega]
    exact ih
theorem woc_at {l : List Wo} {t : Nat} (ht : t < l.length * 4) : (woc l)[t]? = (l.getD (t / 4) wo0).cells[t % 4]? := by
  have hi : t / 4 < l.length := by omega
  have hj : t % 4 < (l.getD (t / 4) wo0).cells.length := by show t % 4 < 4; omega
  have := woc_get l (t / 4) hi (t % 4) _ (List.getElem?_eq_getElem hj)
  rw [show t / 4 * 4 + t % 4 = t by omega] at this
  rw [this, List.getElem?_eq_getElem hj]
theorem woc_one (l : List Wo) : ∀ u ∈ woc l, u.oneCell' = true := by
  intro u hu
  unfold woc at hu
  rw [List.mem_flatMap] at hu
  obtain ⟨c, -, hu⟩ := hu
  simp [Wo.cells] at hu
  rcases hu with rfl | rfl | rfl | rfl <;> rfl
theorem WOM.of {W : World} {base n : Nat} {a : Option Addr} {cap : Nat} {l : List Wo} (h : W.ownsRow base 48 4 (.slice a n cap) n (woc l)) : WOM W a l := fun i hi => by
  obtain ⟨a', cap', e, hc, -, -⟩ := own_slice h
  injection e with e1 e2 e3
  subst e1
  obtain ⟨g, rfl, _⟩ := hc (i * 4 + 0) _ (woc_get l i hi 0 _ rfl)
  refine ⟨g, 0, rfl, fun j v hv => ?_⟩
  obtain ⟨g', e', hc'⟩ := hc (i * 4 + j) _ (woc_get l i hi j v hv)
  cases e'
  rw [Nat.zero_add]
  exact hc'
theorem WOM.flat {W : World} {a : Option Addr} {l : List Wo} (h : WOM W a l) : ∀ j y, (woc l)[j]? = some y → ∃ b off, a = some ⟨b, off, none⟩ ∧ W.cell? ⟨b, off + j, none⟩ = some y := fun j y hy => by
  have hj : j < l.length * 4 := by rw [← woc_len]; exact (List.getElem?_eq_some_iff.1 hy).1
  obtain ⟨b, off, e, hc⟩ := h (j / 4) (by omega)
  rw [woc_at hj] at hy
  have := hc (j % 4) y hy
  exact ⟨b, off, e, by rw [show off + j = off + j / 4 * 4 + j % 4 by omega]; exact this⟩
theorem WOM.keepS {w w' : World} {a : Option Addr} {l : List Wo} {S : Nat → Prop} (h : WOM w a l) (k : Keeps S w w') (hS : ∀ b off, a = some ⟨b, off, none⟩ → ¬ S b) : WOM w' a l := fun i hi => by
  obtain ⟨b, off, e, hc⟩ := h i hi
  exact ⟨b, off, e, fun j v hv => k.cell (hc j v hv) (hS b off e)⟩
theorem uSw : Try.prog.underlying 29 = some (.slice 46) := by kernel_rfl
theorem iSw : (Try.prog.info? 46).map (fun i => (i.zero, i.size, i.bytes)) = some (some (.agg sw0.cells.toArray), 9, 56) := by kernel_rfl
theorem uWo : Try.prog.underlying 30 = some (.slice 48) := by kernel_rfl
theorem iWo : (Try.prog.info? 48).map (fun i => (i.zero, i.size, i.bytes)) = some (some (.agg wo0.cells.toArray), 4, 32) := by kernel_rfl
theorem uTx : Try.prog.underlying 22 = some (.slice 32) := by kernel_rfl
theorem iTxz : (Try.prog.info? 32).map (fun i => (i.zero, i.size, i.bytes)) = some (some (.agg (tv0.clp ⟨none, 0, none, 0⟩).toArray), 11, 120) := by kernel_rfl
/-- Attempts with their lists' places: their cells. -/
def tcl (Q : List (Tv × Lp)) : List Value := Q.flatMap (fun q => q.1.clp q.2)
def q0 : Tv × Lp := (tv0, ⟨none, 0, none, 0⟩)
theorem tcl_len : ∀ (Q : List (Tv × Lp)), (tcl Q).length = Q.length * 11
  | [] => rfl
  | c :: l => by
    have := tcl_len l
    unfold tcl at this ⊢
    rw [List.flatMap_cons, List.length_append, this, List.length_cons]
    show 11 + _ = _
    omega
theorem tcl_get : ∀ (l : List (Tv × Lp)) (i : Nat), i < l.length → ∀ (j : Nat) (v : Value), ((l.getD i q0).1.clp (l.getD i q0).2)[j]? = some v → (tcl l)[i * 11 + j]? = some v
  | c :: l, 0, _, j, v, h => by
    have h : (c.1.clp c.2)[j]? = some v := h
    have hj : j < 11 := (List.getElem?_eq_some_iff.1 h).1
    unfold tcl
    rw [List.flatMap_cons, Nat.zero_mul, Nat.zero_add, List.getElem?_append_left hj]
    exact h
  | c :: l, i + 1, hi, j, v, h => by
    have ih := tcl_get l i (by simpa using hi) j v (by simpa using h)
    unfold tcl at ih ⊢
    rw [List.flatMap_cons, List.getElem?_append_right (show 11 ≤ (i + 1) * 11 + j by omega)]
    show (l.flatMap (fun q => q.1.clp q.2))[(i + 1) * 11 + j - 11]? = _
    rw [show (i + 1) * 11 + j - 11 = i * 11 + j by omega]
    exact ih
theorem tx_one (t : Tv) (q : Lp) : ∀ u ∈ t.clp q, u.oneCell' = true := by
  intro u hu
  simp [Tv.clp, Tv.cells] at hu
  rcases hu with rfl | rfl | rfl | rfl | rfl | rfl | rfl | rfl | rfl | rfl | rfl <;> rfl
theorem append_tx {W : World} {base k : Nat} {v : Value} {l : List (Tv × Lp)} (hown : W.ownsRow base 32 11 v k (tcl l)) (hb : base ≤ W.heap.size) (hk : (k + 1) * 120 ≤ 140737488355328) (x : Tv × Lp) :
    ∃ v' w', (Builtin.append_ #[22, 22] 22 #[v, .slice (some ⟨W.heap.size, 0, none⟩) 1 1]).run Try.prog (W.alloc (.cells (x.1.clp x.2).toArray 32)) = .ok v' w' ∧ w'.ownsRow base 32 11 v' (k + 1) (tcl (l ++ [x])) ∧ Keeps (fun i => v.ownBlock = some i) W w' ∧ (v'.ownBlock = v.ownBlock ∨ v'.ownBlock = some (W.heap.size + 1)) := by
  obtain ⟨v', w', hr, ho, kk, hb⟩ := append_sz uTx iTxz rfl (by decide) hown hb (by decide) hk (x.1.clp x.2) rfl (tx_one x.1 x.2)
  refine ⟨v', w', hr, ?_, kk, hb⟩
  have e : tcl (l ++ [x]) = tcl l ++ x.1.clp x.2 := by unfold tcl; rw [List.flatMap_append]; simp
  rw [e]
  exact ho
/-- Attempts of one's own, with lists of their own. -/
structure TO (w W : World) (v : Value) (Q : List (Tv × Lp)) : Prop where
  o : W.ownsRow w.heap.size 32 11 v Q.length (tcl Q)
  s : ∀ q ∈ Q, SWM W q.2.sa q.1.saws ∧ WOM W q.2.wa q.1.wrs
  a : ∀ q ∈ Q, (∀ b off, q.2.sa = some ⟨b, off, none⟩ → b < W.heap.size ∧ v.ownBlock ≠ some b) ∧ (∀ b off, q.2.wa = some ⟨b, off, none⟩ → b < W.heap.size ∧ v.ownBlock ≠ some b)
  k : Keeps (fun _ => False) w W
theorem TO.start (w : World) : TO w w (.slice none 0 0) [] := ⟨World.ownsRow_nil _ _ _ _, (fun _ h => nomatch h), (fun _ h => nomatch h), Keeps.refl _ w⟩
theorem TO.next {w W W9 W' : World} {v v' : Value} {Q : List (Tv × Lp)} (h : TO w W v Q) (T : Tv) (q : Lp) (k9 : Keeps (fun _ => False) W W9) (h1 : SWM W9 q.sa T.saws) (h2 : WOM W9 q.wa T.wrs) (n1 : ∀ b off, q.sa = some ⟨b, off, none⟩ → W.heap.size ≤ b ∧ b < W9.heap.size) (n2 : ∀ b off, q.wa = some ⟨b, off, none⟩ → W.heap.size ≤ b ∧ b < W9.heap.size)
    (ow : W'.ownsRow w.heap.size 32 11 v' (Q.length + 1) (tcl (Q ++ [(T, q)]))) (kq : Keeps (fun i => v.ownBlock = some i) W9 W') (hb : v'.ownBlock = v.ownBlock ∨ v'.ownBlock = some (W9.heap.size + 1)) : TO w W' v' (Q ++ [(T, q)]) := by
  have hlt := fun b e => owns_lt' h.o b e
  have hz := k9.size
  have hz2 := kq.size
  have nb : ∀ b, b < W9.heap.size → v.ownBlock ≠ some b → v'.ownBlock ≠ some b := fun b hb2 hn e => by
    rcases hb with q | q
    · rw [q] at e; exact hn e
    · rw [q] at e; injection e with e; omega
  have o1 : ∀ b off, q.sa = some ⟨b, off, none⟩ → v.ownBlock ≠ some b := fun b off e q => by have := n1 b off e; have := hlt b q; omega
  have o2 : ∀ b off, q.wa = some ⟨b, off, none⟩ → v.ownBlock ≠ some b := fun b off e q => by have := n2 b off e; have := hlt b q; omega
  refine ⟨by rw [List.length_append]; exact ow, fun p hp => ?_, fun p hp => ?_, ?_⟩
  · rcases List.mem_append.1 hp with r | r
    · obtain ⟨s1, s2⟩ := h.s p r
      exact ⟨(s1.keep k9).keepS kq (fun b off e => ((h.a p r).1 b off e).2), (s2.keep k9).keepS kq (fun b off e => ((h.a p r).2 b off e).2)⟩
    · simp at r
      subst r
      exact ⟨h1.keepS kq o1, h2.keepS kq o2⟩
  · rcases List.mem_append.1 hp with r | r
    · exact ⟨fun b off e => ⟨by have := ((h.a p r).1 b off e).1; omega, nb b (by have := ((h.a p r).1 b off e).1; omega) ((h.a p r).1 b off e).2⟩, fun b off e => ⟨by have := ((h.a p r).2 b off e).1; omega, nb b (by have := ((h.a p r).2 b off e).1; omega) ((h.a p r).2 b off e).2⟩⟩
    · simp at r
      subst r
      exact ⟨fun b off e => ⟨by have := (n1 b off e).2; omega, nb b (n1 b off e).2 (o1 b off e)⟩, fun b off e => ⟨by have := (n2 b off e).2; omega, nb b (n2 b off e).2 (o2 b off e)⟩⟩
  · exact (h.k.trans k9).trans' kq (fun _ _ e => e) (fun i hi e => by have := owns_baseT h.o i e; omega)
theorem getD_q {Q : List (Tv × Lp)} {i : Nat} (h : i < Q.length) : (Q.map (·.1)).getD i tv0 = (Q.getD i q0).1 := by
  rw [List.getD_eq_getElem?_getD, List.getElem?_map, List.getElem?_eq_getElem h, List.getD_eq_getElem?_getD, List.getElem?_eq_getElem h]
  rfl
theorem TO.txm {w W : World} {v : Value} {Q : List (Tv × Lp)} (h : TO w W v Q) : ∃ a cap, v = .slice a Q.length cap ∧ TXM W a (Q.map (·.1)) (fun i => (Q.getD i q0).2) := by
  obtain ⟨a, cap, rfl, hc, _⟩ := own_slice h.o
  refine ⟨a, cap, rfl, fun i hi => ?_⟩
  rw [List.length_map] at hi
  rw [getD_q hi]
  refine ⟨?_, h.s _ (getD_mem q0 hi)⟩
  obtain ⟨g, rfl, _⟩ := hc (i * 11 + 0) _ (tcl_get Q i hi 0 _ rfl)
  refine ⟨g, 0, rfl, fun j v hv => ?_⟩
  obtain ⟨g', e', hc'⟩ := hc (i * 11 + j) _ (tcl_get Q i hi j v hv)
  cases e'
  rw [Nat.zero_add]
  exact hc'
end Go.Proofs.Ythmlppepgcjfgaa
