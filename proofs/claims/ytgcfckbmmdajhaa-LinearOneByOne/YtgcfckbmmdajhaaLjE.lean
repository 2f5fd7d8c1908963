import Derived.Test.YtgcfckbmmdajhaaLjD
import Derived.Laws.StructEq
import Derived.Deep.RegionHeld3
namespace Go.Proofs.Ytgcfckbmmdajhaa
open Go.RowKit Go.Deep Go.ChangeShapes Go.WideShapes Go.ChangeAt
theorem open_capZ {H : Type} {enc : TypeId × Value → H} {P : Program} {W : World} {spare : Nat → Bool} {held : Bool} {t e : TypeId} {fuel : Nat} {a : Option Addr} {len cap : Nat} {x : DataW H × List MemPlace}
    (ht : P.underlying t = some (.slice e)) (h : DataW.trod enc P W 0 spare held fuel t [.slice a len cap] = some x) : a = none → cap = 0 := by
  rcases open_slice ht h with ⟨hcs, _⟩ | ⟨a', len', cap', m, n, D, Pl, hcs, hb, hl, hm, hmm, rfl, hx⟩
  · simp at hcs
    obtain ⟨rfl, rfl, rfl⟩ := hcs
    exact fun _ => rfl
  · simp at hcs
    obtain ⟨rfl, rfl, rfl⟩ := hcs
    exact fun e => by cases e
def ccl (l : List Cl) : List Value := l.flatMap Cl.cells
theorem ccl_len : ∀ (l : List Cl), (ccl l).length = l.length * 8
  | [] => rfl
  | c :: l => by
    have := ccl_len l
    unfold ccl at this ⊢
    rw [List.flatMap_cons, List.length_append, this, List.length_cons]
    show 8 + _ = _
    omega
theorem ccl_get : ∀ (l : List Cl) (i : Nat), i < l.length → ∀ (j : Nat) (v : Value), (l.getD i cl0).cells[j]? = some v → (ccl l)[i * 8 + j]? = some v
  | c :: l, 0, _, j, v, h => by
    have h : c.cells[j]? = some v := h
    have hj : j < 8 := (List.getElem?_eq_some_iff.1 h).1
    unfold ccl
    rw [List.flatMap_cons, Nat.zero_mul, Nat.zero_add, List.getElem?_append_left hj]
    exact h
  | c :: l, i + 1, hi, j, v, h => by
    have ih := ccl_get l i (by simpa using hi) j v (by simpa using h)
    unfold ccl at ih ⊢
    rw [List.flatMap_cons, List.getElem?_append_right (show 8 ≤ (i + 1) * 8 + j by omega)]
    show (l.flatMap Cl.cells)[(i + 1) * 8 + j - 8]? = _
    rw [show (i + 1) * 8 + j - 8 = i * 8 + j by omega]
    exact ih
theorem ccl_at {l : List Cl} {t : Nat} (ht : t < l.length * 8) : (ccl l)[t]? = (l.getD (t / 8) cl0).cells[t % 8]? := by
  have hi : t / 8 < l.length := by omega
  have hj : t % 8 < (l.getD (t / 8) cl0).cells.length := by show t % 8 < 8; omega
  have := ccl_get l (t / 8) hi (t % 8) _ (List.getElem?_eq_getElem hj)
  rw [show t / 8 * 8 + t % 8 = t by omega] at this
  rw [this, List.getElem?_eq_getElem hj]
theorem csl_of {W : World} {base n : Nat} {v : Value} {l : List Cl} (h : W.ownsRow base 33 8 v n (ccl l)) : ∃ a cap, v = .slice a n cap ∧ CSL W a l ∧ n = l.length := by
  have hl := h.1
  rw [ccl_len] at hl
  obtain ⟨a, cap, rfl, hc, _⟩ := own_slice h
  refine ⟨a, cap, rfl, fun i hi => ?_, by omega⟩
  obtain ⟨g, rfl, _⟩ := hc (i * 8 + 0) _ (ccl_get l i hi 0 _ rfl)
  refine ⟨g, 0, rfl, fun j v hv => ?_⟩
  obtain ⟨g', e', hc'⟩ := hc (i * 8 + j) _ (ccl_get l i hi j v hv)
  cases e'
  rw [Nat.zero_add]
  exact hc'
theorem cl_one (l : List Cl) : ∀ u ∈ ccl l, u.oneCell' = true := by
  intro u hu
  unfold ccl at hu
  rw [List.mem_flatMap] at hu
  obtain ⟨c, -, hu⟩ := hu
  simp [Cl.cells] at hu
  rcases hu with rfl | rfl | rfl | rfl | rfl | rfl | rfl | rfl <;> rfl
set_option maxRecDepth 100000 in
/-- A copy of calls. -/
theorem copy_calls {W : World} {a : Option Addr} {cap : Nat} {l : List Cl} (hl : CSL W a l) (hz : a = none → cap = 0) (hn : l.length ≤ 2199023255552) :
    ∃ v' W', (Builtin.append_ #[28, 28] 28 #[.slice (some ⟨W.heap.size, 0, none⟩) 0 0, .slice a l.length cap]).run Try.prog (W.alloc (.cells #[] 33)) = .ok v' W' ∧ W'.ownsRow W.heap.size 33 8 v' l.length (ccl l) ∧ Keeps (fun _ => False) W W' := by
  obtain ⟨i0, hi0, hzz⟩ := Option.map_eq_some_iff.1 iC
  simp only [Prod.mk.injEq] at hzz
  obtain ⟨hz0, hz1, hz2⟩ := hzz
  have k0 : Keeps (fun _ => False) W (W.alloc (.cells #[] 33)) := (Keeps.refl _ W).alloc _
  have o0 : (W.alloc (.cells #[] 33)).ownsRow W.heap.size 33 8 (.slice (some ⟨W.heap.size, 0, none⟩) 0 0) 0 [] := ⟨by simp, .inr ⟨W.heap.size, 0, #[], rfl, Nat.le_refl _, by rw [show (W.alloc (.cells #[] 33)).heap = W.heap.push (.cells #[] 33) from rfl]; simp, Nat.le_refl _, by unfold maxLen; omega, by simp, by simp⟩⟩
  cases a with
  | none =>
    have hl0 : l = [] := by
      cases l with
      | nil => rfl
      | cons c l =>
        obtain ⟨b, off, e, _⟩ := hl 0 (by simp)
        cases e
    subst hl0
    rw [hz rfl]
    exact ⟨_, _, run_append_owned_none (P := Try.prog) (w := W.alloc (.cells #[] 33)) W.heap.size 28 28 33 i0 8 uC hi0 _ 0 [] o0, o0, k0⟩
  | some p =>
    obtain ⟨v', w', hr, ho, hgr, _, _⟩ := run_append_own_at (P := Try.prog) (w := W.alloc (.cells #[] 33)) W.heap.size 28 28 33 i0 _ 8 64 uC hi0 hz0 hz1 hz2 rfl (by decide) _ 0 [] o0 p l.length cap (ccl l) (ccl_len l) (fun j y hy => by
      have hj : j < l.length * 8 := by rw [← ccl_len]; exact (List.getElem?_eq_some_iff.1 hy).1
      obtain ⟨b, off, e, hc⟩ := hl (j / 8) (by omega)
      injection e with e
      subst e
      rw [ccl_at hj] at hy
      have := hc (j % 8) y hy
      rw [add_atT, show off + j = off + j / 8 * 8 + j % 8 by omega]
      exact k0.cell this (fun e => e)) (cl_one l) (by unfold maxLen; omega) (by omega) k0.size
    rw [Nat.zero_add, List.nil_append] at ho
    exact ⟨v', w', hr, ho, k0.trans' ((Keeps.refl _ _).grown hgr (S := fun i => i = W.heap.size) (fun i _ e => by simp [Value.ownBlock] at e; exact e.symm)) (fun _ _ e => e) (fun i hi e => by have e : i = W.heap.size := e; omega)⟩
theorem eql_cl (s : Cl) (w : World) : (Op.equalIn 10000 33 (.agg s.cells.toArray) (.agg s.cells.toArray)).run Try.prog w = .ok true w := by
  rw [run_equalIn_agg w 9999 _ _ _ (by kernel_rfl) (by kernel_rfl)]
  unfold Program.fieldsOf
  rw [Try.underlying33]
  unfold Cl.cells
  go_simp
theorem wpQuiet_load {P : Program} {ops : Array Oper} {C : World → Prop} {Q : Act → Prop} {rest : List Oper} {o : Oper} {a : Act} (hw : Region.wanted o (yielded ops a.tmps) = true) (ty : TypeId) (x : Operand) (ho : o.op = .load ty x) (ad : Addr) (hx : a.eval x = .pointer (some ad)) (v : Value)
    (hr : ∀ w, C w → (loadVar ty ad).run P w = .ok v w) (h : wpQuiet P ops C Q rest (a.put o.dst v)) : wpQuiet P ops C Q (o :: rest) a :=
  BigFrame.wpQuiet_want hw fun K hK => ⟨v, fun w hC => by
    unfold Oper.quietAt execOp
    simp only [ho, hx, Instr.loadAt, Instr.sureAddr, Sem.run_bind, Sem.run_pure, Result.andThen_ok, hr w hC]
    exact ⟨rfl, rfl⟩, hK _ h⟩
theorem wpQuiet_neq {P : Program} {ops : Array Oper} {C : World → Prop} {Q : Act → Prop} {rest : List Oper} {o : Oper} {a : Act} (hw : Region.wanted o (yielded ops a.tmps) = true) (ty t2 : TypeId) (x y : Operand) (ho : o.op = .binOp .neq ty x y t2) (xs ys : Array Value) (hx : a.eval x = .agg xs) (hy : a.eval y = .agg ys) (b : Bool)
    (hm : P.eqGuardType P.depth ty = false) (hr : ∀ w, (Op.equalIn 10000 ty (.agg xs) (.agg ys)).run P w = .ok b w) (h : wpQuiet P ops C Q rest (a.put o.dst (.bool (!b)))) : wpQuiet P ops C Q (o :: rest) a :=
  BigFrame.wpQuiet_want hw fun K hK => ⟨.bool (!b), fun w hC => by
    unfold Oper.quietAt execOp
    simp only [ho, hx, hy, Sem.run_bind, Sem.run_pure, Result.andThen_ok, run_eqGuard_agg _ _ _ _ _ _ _ hm, run_neq_struct, hr]
    exact ⟨rfl, rfl⟩, hK _ h⟩
end Go.Proofs.Ytgcfckbmmdajhaa
