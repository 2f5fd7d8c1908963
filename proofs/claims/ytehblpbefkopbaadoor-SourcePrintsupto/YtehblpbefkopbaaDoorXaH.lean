import Derived.Test.YtehblpbefkopbaaDoorXaG
namespace Go.Proofs.YtehblpbefkopbaaDoor
open Go.RowKit Go.ChangeShapes Go.WideShapes Go.ChangeAt
attribute [local go_sem] Oper.semAt_some run_store_nf run_store_f
theorem wp_loadK {P : Program} {o : Oper} {a : Act} {w : World} {K : Act → World → Prop} {Q : Exit → Act → World → Prop} (ty : TypeId) (x : Operand) (ho : o.op = .load ty x) (p : Addr) (hx : a.eval x = .pointer (some p)) (v : Value) (hr : (loadVar ty p).run P w = .ok v w) (h : K (a.put o.dst v) w) : o.wp P a w K Q := by
  unfold Oper.wp execOp
  simp only [ho, hx, Instr.loadAt, Instr.sureAddr, Sem.run_bind, Sem.run_pure, Result.andThen_ok, hr]
  exact h
theorem wp_storeK {P : Program} {o : Oper} {a : Act} {w w' : World} {K : Act → World → Prop} {Q : Exit → Act → World → Prop} (ty : TypeId) (x y : Operand) (ho : o.op = .store ty x y) (p : Addr) (hx : a.eval x = .pointer (some p)) (v : Value) (hy : a.eval y = v) (hr : (storeVar ty p v).run P w = .ok () w') (h : K (a.put o.dst undef) w') : o.wp P a w K Q := by
  unfold Oper.wp execOp
  simp only [ho, hx, hy, Instr.storeAt, Instr.sureAddr, Sem.run_bind, Sem.run_pure, Result.andThen_ok, hr]
  exact h
theorem wp_call1 (f : Nat) {o : Oper} {a : Act} {w : World} {K : Act → World → Prop} {Q : Exit → Act → World → Prop} (x : Tmp) {t1 : TypeId} (ho : o.op = .call { callee := .value (.func f), args := #[.tmp x], argTypes := #[t1] }) (v1 : Value) (hx : a.tmps[x]?.getD undef = v1) (hcf : ∀ args w, (callFunc f args).run Tryd.prog w = .ok (.enter f args) w) (h : Calls Tryd.prog f #[v1] w (fun e w' => ∃ v, e = .returned v ∧ K (a.put o.dst v) w')) : o.wp Tryd.prog a w K Q := by
  unfold Oper.wp execOp
  simp only [ho]
  go_simp
  refine h.mono ?_
  rintro e w' ⟨v, rfl, h⟩
  exact h
theorem run_load_s {w : World} {p : Addr} {s : ByteArray} (h : w.cell? p = some (.string s)) : (loadVar 9 p).run Tryd.prog w = .ok (.string s) w := by
  go_simp
theorem run_store_s {w : World} {p : Addr} (h : (w.cell? p).isSome = true) (hz : w.frozen? p = false) (s : ByteArray) : (storeVar 9 p (.string s)).run Tryd.prog w = .ok () (w.setCell p (.string s)) := by
  obtain ⟨u, hu⟩ := Option.isSome_iff_exists.1 h
  go_simp
end Go.Proofs.YtehblpbefkopbaaDoor
