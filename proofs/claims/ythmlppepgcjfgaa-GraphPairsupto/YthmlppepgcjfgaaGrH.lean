import Derived.Test.YthmlppepgcjfgaaGrG
import Derived.Laws.StructEq
namespace Go.Proofs.Ythmlppepgcjfgaa
open Go.RowKit Go.Deep Go.ChangeShapes Go.WideShapes Go.ChangeAt
attribute [local go_sem] Oper.semAt_some run_store_nf run_store_f
theorem uE : Try.prog.underlying 23 = some (.slice 34) := by kernel_rfl
theorem iE : (Try.prog.info? 34).map (fun i => (i.zero, i.size, i.bytes)) = some (some (.agg #[.int .i64 0, .int .i64 0, .int .i64 0, .int .i64 0]), 4, 32) := by kernel_rfl
def ecl (l : List Ed) : List Value := l.flatMap Ed.cells
theorem ecl_len : ∀ (l : List Ed), (ecl l).length = l.length * 4
  | [] => rfl
  | c :: l => by
    have := ecl_len l
    unfold ecl at this ⊢
    rw [List.flatMap_cons, List.length_append, this, List.length_cons]
    show 4 + _ = _
    omega
theorem ecl_get : ∀ (l : List Ed) (i : Nat), i < l.length → ∀ (j : Nat) (v : Value), (l.getD i ed0).cells[j]? = some v → (ecl l)[i * 4 + j]? = some v
  | c :: l, 0, _, j, v, h => by
    have h : c.cells[j]? = some v := h
    have hj : j < 4 := (List.getElem?_eq_some_iff.1 h).1
    unfold ecl
    rw [List.flatMap_cons, Nat.zero_mul, Nat.zero_add, List.getElem?_append_left hj]
    exact h
  | c :: l, i + 1, hi, j, v, h => by
    have ih := ecl_get l i (by simpa using hi) j v (by simpa using h)
    unfold ecl at ih ⊢
    rw [List.flatMap_cons, List.getElem?_append_right (show 4 ≤ (i + 1) * 4 + j by omega)]
    show (l.flatMap Ed.cells)[(i + 1) * 4 + j - 4]? = _
    rw [show (i + 1) * 4 + j - 4 = i * 4 + j by omega]
    exact ih
theorem ecl_at {l : List Ed} {t : Nat} (ht : t < l.length * 4) : (ecl l)[t]? = (l.getD (t / 4) ed0).cells[t % 4]? := by
  have hi : t / 4 < l.length := by omega
  have hj : t % 4 < (l.getD (t / 4) ed0).cells.length := by show t % 4 < 4; omega
  have := ecl_get l (t / 4) hi (t % 4) _ (List.getElem?_eq_getElem hj)
  rw [show t / 4 * 4 + t % 4 = t by omega] at this
  rw [this, List.getElem?_eq_getElem hj]
theorem el_of {W : World} {base n : Nat} {v : Value} {l : List Ed} (h : W.ownsRow base 34 4 v n (ecl l)) : ∃ a cap, v = .slice a n cap ∧ EL W a l ∧ n = l.length := by
  have hl := h.1
  rw [ecl_len] at hl
  obtain ⟨a, cap, rfl, hc, _⟩ := own_slice h
  refine ⟨a, cap, rfl, fun i hi => ?_, by omega⟩
  obtain ⟨g, rfl, _⟩ := hc (i * 4 + 0) _ (ecl_get l i hi 0 _ rfl)
  refine ⟨g, 0, rfl, fun j v hv => ?_⟩
  obtain ⟨g', e', hc'⟩ := hc (i * 4 + j) _ (ecl_get l i hi j v hv)
  cases e'
  rw [Nat.zero_add]
  exact hc'
theorem ed_one (l : List Ed) : ∀ u ∈ ecl l, u.oneCell' = true := by
  intro u hu
  unfold ecl at hu
  rw [List.mem_flatMap] at hu
  obtain ⟨c, -, hu⟩ := hu
  simp [Ed.cells] at hu
  rcases hu with rfl | rfl | rfl | rfl <;> rfl
set_option maxRecDepth 100000 in
/-- A copy of calls. -/
theorem copy_edges {W : World} {a : Option Addr} {cap : Nat} {l : List Ed} (hl : EL W a l) (hz : a = none → cap = 0) (hn : l.length ≤ 4398046510976) :
    ∃ v' W', (Builtin.append_ #[23, 23] 23 #[.slice (some ⟨W.heap.size, 0, none⟩) 0 0, .slice a l.length cap]).run Try.prog (W.alloc (.cells #[] 34)) = .ok v' W' ∧ W'.ownsRow W.heap.size 34 4 v' l.length (ecl l) ∧ Keeps (fun _ => False) W W' := by
  obtain ⟨i0, hi0, hzz⟩ := Option.map_eq_some_iff.1 iE
  simp only [Prod.mk.injEq] at hzz
  obtain ⟨hz0, hz1, hz2⟩ := hzz
  have k0 : Keeps (fun _ => False) W (W.alloc (.cells #[] 34)) := (Keeps.refl _ W).alloc _
  have o0 : (W.alloc (.cells #[] 34)).ownsRow W.heap.size 34 4 (.slice (some ⟨W.heap.size, 0, none⟩) 0 0) 0 [] := ⟨by simp, .inr ⟨W.heap.size, 0, #[], rfl, Nat.le_refl _, by rw [show (W.alloc (.cells #[] 34)).heap = W.heap.push (.cells #[] 34) from rfl]; simp, Nat.le_refl _, by unfold maxLen; omega, by simp, by simp⟩⟩
  cases a with
  | none =>
    have hl0 : l = [] := by
      cases l with
      | nil => rfl
      | cons c l =>
        obtain ⟨b, off, e, _⟩ := hl 0 (by simp)
        cases e
    subst hl0
    rw [hz rfl]
    exact ⟨_, _, run_append_owned_none (P := Try.prog) (w := W.alloc (.cells #[] 34)) W.heap.size 23 23 34 i0 4 uE hi0 _ 0 [] o0, o0, k0⟩
  | some p =>
    obtain ⟨v', w', hr, ho, hgr, _, _⟩ := run_append_own_at (P := Try.prog) (w := W.alloc (.cells #[] 34)) W.heap.size 23 23 34 i0 _ 4 32 uE hi0 hz0 hz1 hz2 rfl (by decide) _ 0 [] o0 p l.length cap (ecl l) (ecl_len l) (fun j y hy => by
      have hj : j < l.length * 4 := by rw [← ecl_len]; exact (List.getElem?_eq_some_iff.1 hy).1
      obtain ⟨b, off, e, hc⟩ := hl (j / 4) (by omega)
      injection e with e
      subst e
      rw [ecl_at hj] at hy
      have := hc (j % 4) y hy
      rw [add_atT, show off + j = off + j / 4 * 4 + j % 4 by omega]
      exact k0.cell this (fun e => e)) (ed_one l) (by unfold maxLen; omega) (by omega) k0.size
    rw [Nat.zero_add, List.nil_append] at ho
    exact ⟨v', w', hr, ho, k0.trans' ((Keeps.refl _ _).grown hgr (S := fun i => i = W.heap.size) (fun i _ e => by simp [Value.ownBlock] at e; exact e.symm)) (fun _ _ e => e) (fun i hi e => by have e : i = W.heap.size := e; omega)⟩
theorem eql_ed (s : Ed) (w : World) : (Op.equalIn 10000 34 (.agg s.cells.toArray) (.agg s.cells.toArray)).run Try.prog w = .ok true w := by
  rw [run_equalIn_agg w 9999 _ _ _ (by kernel_rfl) (by kernel_rfl)]
  unfold Program.fieldsOf
  rw [Try.underlying34]
  unfold Ed.cells
  go_simp
theorem wpQuiet_load {P : Program} {ops : Array Oper} {C : World → Prop} {Q : Act → Prop} {rest : List Oper} {o : Oper} {a : Act} (hw : Region.wanted o (yielded ops a.tmps) = true) (ty : TypeId) (x : Operand) (ho : o.op = .load ty x) (ad : Addr) (hx : a.eval x = .pointer (some ad)) (v : Value)
    (hr : ∀ w, C w → (loadVar ty ad).run P w = .ok v w) (h : wpQuiet P ops C Q rest (a.put o.dst v)) : wpQuiet P ops C Q (o :: rest) a :=
  BigFrame.wpQuiet_want hw fun K hK => ⟨v, fun w hC => by
    unfold Oper.quietAt execOp
    simp only [ho, hx, Instr.loadAt, Instr.sureAddr, Sem.run_bind, Sem.run_pure, Result.andThen_ok, hr w hC]
    exact ⟨rfl, rfl⟩, hK _ h⟩
theorem wpQuiet_neq {P : Program} {ops : Array Oper} {C : World → Prop} {Q : Act → Prop} {rest : List Oper} {o : Oper} {a : Act} (hw : Region.wanted o (yielded ops a.tmps) = true) (ty t2 : TypeId) (x y : Operand) (ho : o.op = .binOp .neq ty x y t2) (xs ys : Array Value) (hx : a.eval x = .agg xs) (hy : a.eval y = .agg ys) (b : Bool)
    (hm : P.eqGuardType P.depth ty = false) (hr : ∀ w, (Op.equalIn 10000 ty (.agg xs) (.agg ys)).run P w = .ok b w) (h : wpQuiet P ops C Q rest (a.put o.dst (.bool (!b)))) : wpQuiet P ops C Q (o :: rest) a :=
  BigFrame.wpQuiet_want hw fun K hK => ⟨.bool (!b), fun w hC => by
    unfold Oper.quietAt execOp
    simp only [ho, hx, hy, Sem.run_bind, Sem.run_pure, Result.andThen_ok, run_eqGuard_agg _ _ _ _ _ _ _ hm, run_neq_struct, hr]
    exact ⟨rfl, rfl⟩, hK _ h⟩
theorem wpList_build2L {t e : TypeId} {z : Value} {size bytes : Nat} (ht : Try.prog.underlying t = some (.slice e)) (hinfo : (Try.prog.info? e).map (fun i => (i.zero, i.size, i.bytes)) = some (some z, size, bytes)) (hs : 0 < size) (hs2 : size ≤ 100) {ops : Array Oper} {rest : List Oper} {o : Oper} {a : Act} {w : World} {Q : Exit → Act → World → Prop} (hg : o.guard = none) (x y : Operand) (ho : o.op = .buildSlice t 2 #[(0, x), (1, y)]) (cs ds : List Value) (hc : cs.length = size) (hd : ds.length = size) (hx : a.eval x = .agg cs.toArray) (hy : a.eval y = .agg ds.toArray)
    (h : wpList Try.prog ops Q rest (a.put o.dst (.slice (some ⟨w.heap.size, 0, none⟩) 2 2)) (w.alloc (.cells (cs ++ ds).toArray e))) : wpList Try.prog ops Q (o :: rest) a w := by
  obtain ⟨i0, hi0, hzz⟩ := Option.map_eq_some_iff.1 hinfo
  simp only [Prod.mk.injEq] at hzz
  obtain ⟨hz0, hz1, -⟩ := hzz
  refine wpList_buildSlice hg t e 2 _ ho (cs ++ ds).toArray i0 _ ht hi0 hz0 (by rw [hz1]; omega) (by rw [hz1]; omega) ?_ h
  rw [hz1]
  have e : (#[(0, x), (1, y)].map fun (i, x) => (i, a.eval x)).toList = ([Value.agg cs.toArray, Value.agg ds.toArray].zipIdx 0).map fun x => (x.2, x.1) := by simp [hx, hy]
  have e2 : ([Value.agg cs.toArray, Value.agg ds.toArray].flatMap fun v => v.cells.toList).toArray = (cs ++ ds).toArray := by simp [Value.cells]
  rw [e, Great.fill_whole (s := size) hs [Value.agg cs.toArray, Value.agg ds.toArray] _ (fun v hv => by
    simp at hv
    rcases hv with rfl | rfl
    · simpa [Value.cells] using hc
    · simpa [Value.cells] using hd) (by simp), e2]
def e77 : Ed := ⟨77, 0, 0, 0⟩
def e78 : Ed := ⟨78, 0, 0, 0⟩
theorem append_two {W : World} {base k : Nat} {v : Value} {vs : List Ed} (hown : W.ownsRow base 34 4 v k (ecl vs)) (hb : base ≤ W.heap.size) (hk : (k + 2) * 32 ≤ 140737488355328) (x y : Ed) :
    ∃ v' w', (Builtin.append_ #[23, 23] 23 #[v, .slice (some ⟨W.heap.size, 0, none⟩) 2 2]).run Try.prog (W.alloc (.cells (x.cells ++ y.cells).toArray 34)) = .ok v' w' ∧ w'.ownsRow base 34 4 v' (k + 2) (ecl (vs ++ [x, y])) ∧ Keeps (fun i => v.ownBlock = some i) W w' := by
  obtain ⟨i0, hi0, hzz⟩ := Option.map_eq_some_iff.1 iE
  simp only [Prod.mk.injEq] at hzz
  obtain ⟨hz0, hz1, hz2⟩ := hzz
  obtain ⟨v', w', hr, ho, hg, _, hbl⟩ := run_append_own_at (P := Try.prog) (w := W.alloc (.cells (ecl [x, y]).toArray 34)) base 23 23 34 i0 _ 4 32 uE hi0 hz0 hz1 hz2 rfl (by decide) v k (ecl vs) (((Keeps.refl (fun _ => False) W).alloc _).owns hown (fun _ _ e => e)) ⟨W.heap.size, 0, none⟩ 2 2 (ecl [x, y]) rfl (fun j u hu => by
      rw [add_atT]
      have := (CL.made W (ecl [x, y]) 34).c j u hu
      simpa using this) (ed_one _) (by unfold maxLen; omega) (by omega) (Nat.le_trans hb (by simp))
  refine ⟨v', w', hr, ?_, ((Keeps.refl _ W).alloc _).grown hg (fun i _ e => e)⟩
  unfold ecl
  rw [List.flatMap_append]
  exact ho
theorem el_app {W : World} {a : Option Addr} {l m : List Ed} (h : EL W a (l ++ m)) : EL W a l := fun i hi => by
  obtain ⟨b, off, e, hc⟩ := h i (by rw [List.length_append]; omega)
  refine ⟨b, off, e, ?_⟩
  rw [List.getD_eq_getElem?_getD, List.getElem?_append_left hi, ← List.getD_eq_getElem?_getD] at hc
  exact hc
theorem el_last {W : World} {a : Option Addr} {l : List Ed} (h : EL W a (l ++ [e77, e78])) : ∃ b off, a = some ⟨b, off, none⟩ ∧ W.cell? ⟨b, off + l.length * 4, none⟩ = some (.int .i64 77) ∧ W.cell? ⟨b, off + (l.length + 1) * 4, none⟩ = some (.int .i64 78) := by
  obtain ⟨b, off, e, hc⟩ := h l.length (by simp)
  obtain ⟨b', off', e', hc'⟩ := h (l.length + 1) (by simp)
  rw [e] at e'
  injection e' with e'
  injection e' with q1 q2 _
  subst q1 q2
  rw [List.getD_eq_getElem?_getD, List.getElem?_append_right (Nat.le_refl _), Nat.sub_self] at hc
  rw [List.getD_eq_getElem?_getD, List.getElem?_append_right (by omega), show l.length + 1 - l.length = 1 by omega] at hc'
  exact ⟨b, off, e, hc 0 _ rfl, hc' 0 _ rfl⟩
end Go.Proofs.Ythmlppepgcjfgaa
