import Derived.Test.YtlghfnpaajgneaaGreatDoorTxSt
import Derived.Laws.ResultCell
import Derived.Defers
namespace Go.Proofs.YtlghfnpaajgneaaGreatDoor
open Go.RowKit
attribute [local go_sem] Oper.semAt_some run_store_nf run_store_f
/-- The row that uses nothing. -/
def zr : List Value := [.int .i64 0, .int .i64 0, .int .i64 0, .int .i64 0, .int .i64 0, .int .i64 0, .int .i64 0, .int .i64 0, .int .i64 0, .int .i64 0, .int .i64 0, .int .i64 0, .int .i64 0, .bool false, .bool false, .bool false, .int .i64 0, .bool false, .int .i64 0, .int .i64 0, .bool false, .bool false, .int .i64 0, .int .i64 0, .bool false, .int .i64 0]
theorem i46 : (Tryz.prog.info? 35).map (·.size) = some 26 := by kernel_rfl
theorem zr_one : zr.toArray.all (·.oneCell') = true := all_oneCell_toArray (by simp [zr, Value.oneCell'])
theorem run_zr {W : World} {b : Nat} (h : CL W b zr) : (loadVar 35 ⟨b, 0, none⟩).run Tryz.prog W = .ok (.agg zr.toArray) W :=
  run_loadVar_mid W b 0 35 zr _ (fun j v e => by have := h.c j v e; rwa [Nat.zero_add]) Tryz.underlying35 rfl (by rw [i46]; rfl)
theorem results_cell2x {fn : Func} {p q : Tmp} {ty ty2 : TypeId} (h : fn.results = #[.cell p ty, .cell q ty2]) (tmps : Array Value) (P : Program) (w : World) {a b : Addr} {v1 v2 : Value}
    (ha : tmps[p]?.getD undef = .pointer (some a)) (hb : tmps[q]?.getD undef = .pointer (some b)) (h1 : (loadVar ty a).run P w = .ok v1 w) (h2 : (loadVar ty2 b).run P w = .ok v2 w) : (results fn tmps).run P w = .ok (.tuple #[v1, v2]) w := by
  simp only [results, h]
  simp [Sem.run_bind, Result.andThen, asAddr, ha, hb, h1, h2]
theorem wpList_load_want {P : Program} {w : World} {ops : Array Oper} {rest : List Oper} {o : Oper} {a : Act} {Q : Exit → Act → World → Prop} (hw : Region.wanted o (yielded ops a.tmps) = true) (ty : TypeId) (x : Operand) (ho : o.op = .load ty x) (ad : Addr) (hx : a.eval x = .pointer (some ad)) (v : Value)
    (hr : (loadVar ty ad).run P w = .ok v w) (h : wpList P ops Q rest (a.put o.dst v) w) : wpList P ops Q (o :: rest) a w :=
  BigFrame.wpList_want hw fun _ hK => by
    unfold Oper.wp execOp
    simp only [ho, hx, Instr.loadAt, Instr.sureAddr, Sem.run_bind, Sem.run_pure, Result.andThen_ok, hr]
    exact hK _ _ h

/-- No job: nil, or the zero one. -/
structure NJ (w : World) (v : Value) : Prop where
  go : v = .pointer none ∨ ∃ b, v = .pointer (some ⟨b, 0, none⟩) ∧ w.cell? ⟨b, 0, none⟩ = some (.pointer none) ∧ w.cell? ⟨b, 19, none⟩ = some (.int .i64 0) ∧ w.cell? ⟨b, 21, none⟩ = some (.bool false) ∧ w.cell? ⟨b, 22, none⟩ = some (.int .i64 0) ∧ w.cell? ⟨b, 23, none⟩ = some (.int .i64 0) ∧ w.cell? ⟨b, 24, none⟩ = some (.bool false) ∧ w.cell? ⟨b, 25, none⟩ = some (.int .i64 0)
theorem NJ.new {w w' : World} {v : Value} (h : NJ w v) (k : Keeps (fun _ => False) w w') : NJ w' v := by
  have c := fun {p : Addr} {x : Value} (e : w.cell? p = some x) => k.cell e (fun e => e)
  rcases h.go with h | ⟨b, h, h0, h1, h2, h3, h4, h5, h6⟩
  · exact ⟨.inl h⟩
  · exact ⟨.inr ⟨b, h, c h0, c h1, c h2, c h3, c h4, c h5, c h6⟩⟩
set_option maxHeartbeats 800000 in
set_option maxRecDepth 1000000 in
theorem jOver {w : World} {v : Value} (h : NJ w v) : Calls Tryz.prog 6 #[v] w fun e w' => e = .returned (.bool true) ∧ w' = w := by
  rcases h.go with rfl | ⟨b, rfl, h0, h1, h2, h3, h4, h5, h6⟩
  · clear h
    go_enter Tryz.func6, Tryz.ntmps6
    go_wp2
    go_ret
    exact ⟨rfl, rfl⟩
  · clear h
    go_enter Tryz.func6, Tryz.ntmps6
    go_wp2
    go_ret
    exact ⟨rfl, rfl⟩
set_option maxHeartbeats 800000 in
set_option maxRecDepth 1000000 in
theorem jPlace {w : World} {v : Value} (h : NJ w v) : Calls Tryz.prog 8 #[v] w fun e w' => e = .returned (.int .i64 0) ∧ w' = w := by
  rcases h.go with rfl | ⟨b, rfl, h0, h1, h2, h3, h4, h5, h6⟩
  · clear h
    go_enter Tryz.func8, Tryz.ntmps8
    go_wp2
    go_ret
    exact ⟨rfl, rfl⟩
  · clear h
    go_enter Tryz.func8, Tryz.ntmps8
    go_wp2
    go_ret
    exact ⟨rfl, rfl⟩
theorem results_cell1z {fn : Func} {p : Tmp} {ty : TypeId} (h : fn.results = #[.cell p ty]) (tmps : Array Value) (P : Program) (w : World) :
    (results fn tmps).run P w = ((asAddr (tmps.getD p undef)).run P w).andThen fun a w₁ => (loadVar ty a).run P w₁ := by
  simp only [results, h]
  simp [Sem.run_bind, Result.andThen]
set_option maxHeartbeats 800000 in
set_option maxRecDepth 1000000 in
theorem jAnswer {w : World} {v : Value} (h : NJ w v) : Calls Tryz.prog 7 #[v] w fun e w' => e = .returned (.agg #[.int .i64 0, .int .i64 0, .bool false, .int .i64 0]) ∧ Keeps (fun _ => False) w w' := by
  have k : Keeps (fun _ => False) w (w.alloc (.cells #[.int .i64 0, .int .i64 0, .bool false, .int .i64 0] 26)) := (Keeps.refl _ w).alloc _
  rcases (h.new k).go with rfl | ⟨b, rfl, h0, h1, h2, h3, h4, h5, h6⟩
  · clear h
    go_enter Tryz.func7, Tryz.ntmps7
    go_wp2
    refine bodyPost_ret (v := .agg #[.int .i64 0, .int .i64 0, .bool false, .int .i64 0]) (by rw [results_cell1z rfl]; go_simp) rfl ⟨rfl, ?_⟩
    exact k
  · clear h
    go_enter Tryz.func7, Tryz.ntmps7
    go_wp2
    refine bodyPost_ret (v := .agg #[.int .i64 0, .int .i64 0, .bool false, .int .i64 0]) (by rw [results_cell1z rfl]; go_simp) rfl ⟨rfl, ?_⟩
    exact k
set_option maxHeartbeats 800000 in
set_option maxRecDepth 1000000 in
theorem jStep {w : World} {v : Value} (h : NJ w v) : Calls Tryz.prog 5 #[v] w fun e w' => e = .returned (.tuple #[.agg zr.toArray, .int .i64 120]) ∧ Keeps (fun _ => False) w w' := by
  obtain ⟨w0, hw0⟩ : ∃ w0, w0 = ((w.alloc (.cells #[v] 30)).alloc (.cells #[.int .i64 0, .int .i64 0, .int .i64 0, .int .i64 0, .int .i64 0, .int .i64 0, .int .i64 0, .int .i64 0, .int .i64 0, .int .i64 0, .int .i64 0, .int .i64 0, .int .i64 0, .bool false, .bool false, .bool false, .int .i64 0, .bool false, .int .i64 0, .int .i64 0, .bool false, .bool false, .int .i64 0, .int .i64 0, .bool false, .int .i64 0] 35)).alloc (.cells #[.int .i64 0] 36) := ⟨_, rfl⟩
  have k0 : Keeps (fun _ => False) w w0 := by rw [hw0]; exact (((Keeps.refl _ w).alloc _).alloc _).alloc _
  have hb : CL w0 (w.heap.size + 1) zr := by
    rw [hw0]
    have := CL.made (w.alloc (.cells #[v] 30)) zr 35
    rw [show (w.alloc (.cells #[v] 30)).heap.size = w.heap.size + 1 by simp] at this
    exact this.alloc (by show 0 < 26; decide) _
  have ca : CL w0 w.heap.size [v] := by
    rw [hw0]
    exact ((CL.made w [v] 30).alloc (by show 0 < 1; decide) _).alloc (by show 0 < 1; decide) _
  have ce : CL w0 (w.heap.size + 1 + 1) [.int .i64 0] := by
    rw [hw0]
    refine cast ?_ (CL.made ((w.alloc (.cells #[v] 30)).alloc (.cells #[.int .i64 0, .int .i64 0, .int .i64 0, .int .i64 0, .int .i64 0, .int .i64 0, .int .i64 0, .int .i64 0, .int .i64 0, .int .i64 0, .int .i64 0, .int .i64 0, .int .i64 0, .bool false, .bool false, .bool false, .int .i64 0, .bool false, .int .i64 0, .int .i64 0, .bool false, .bool false, .int .i64 0, .int .i64 0, .bool false, .int .i64 0] 35)) [.int .i64 0] 36)
    congr 1
    simp
  have a0 := ca.c 0 _ rfl
  have hs := jOver (h.new k0)
  have nb2 : ¬ w.heap.size + 1 + 1 = w.heap.size + 1 := by omega
  rcases h.go with rfl | ⟨b, rfl, _⟩
  all_goals
    clear h
    go_enter_defers Tryz.func5, Tryz.ntmps5
    go_wp2_with fail
    rw [← hw0]
    clear hw0
    refine hs.mono ?_
    clear hs
    rintro e w1 ⟨rfl, e1⟩
    subst w1
    go_wp2_with (refine wpList_store_cl rfl 35 _ _ rfl (w.heap.size + 1) 0 26 _ rfl rfl rfl hb (by show 26 ≤ 26; decide) i46 zr_one ?_; intro w5 hb5 k5 _; have ce5 := ce.keep (by show 0 < 1; decide) k5 nb2; have e5 := ce5.c 0 _ rfl; have ze5 := ce5.z 0 (by show 0 < 1; decide); clear a0)
    have hb6 := hb5.other (p := ⟨w.heap.size + 1 + 1, 0, none⟩) nb2 (.int .i64 120)
    have ce6 := ce5.set (o := 0) (by show 0 < 1; decide) (.int .i64 120)
    have k6 : Keeps (fun k => k = w.heap.size + 1 ∨ k = w.heap.size + 1 + 1) w0 (w5.setCell ⟨w.heap.size + 1 + 1, 0, none⟩ (.int .i64 120)) := (k5.mono (fun _ _ e => .inl e)).setCell (fun _ => .inr rfl) _
    have hr6 := run_zr hb6
    have e6 := ce6.c 0 _ rfl
    refine ⟨.tuple #[.agg zr.toArray, .int .i64 120], ?_, rfl, k0.trans' k6 (fun _ _ e => e) (fun i hi e => by omega)⟩
    refine results_cell2x Tryz.results5 _ _ _ (a := ⟨w.heap.size + 1, 0, none⟩) (b := ⟨w.heap.size + 1 + 1, 0, none⟩) rfl rfl hr6 ?_
    clear hb6 ce6 hb5 ce5 e5 ze5 hr6
    generalize w5.setCell ⟨w.heap.size + 1 + 1, 0, none⟩ (.int .i64 120) = w6 at *
    go_simp
end Go.Proofs.YtlghfnpaajgneaaGreatDoor
