import Derived.Test.YtefnjcdcdfmgpaaGreatDoorTxSt
import Derived.Laws.ResultCell
namespace Go.Proofs.YtefnjcdcdfmgpaaGreatDoor
open Go.RowKit
attribute [local go_sem] Oper.semAt_some run_store_nf run_store_f

/-- The row that uses nothing. -/
def zr : List Value := [.int .i64 0, .int .i64 0, .int .i64 0, .int .i64 0, .int .i64 0, .int .i64 0, .int .i64 0, .int .i64 0, .int .i64 0, .int .i64 0, .int .i64 0, .int .i64 0, .int .i64 0, .bool false, .bool false, .bool false, .int .i64 0, .bool false, .int .i64 0, .int .i64 0, .bool false, .bool false, .int .i64 0, .int .i64 0, .bool false, .int .i64 0]
theorem i46 : (Tryz.prog.info? 42).map (·.size) = some 26 := by kernel_rfl
theorem zr_one : zr.toArray.all (·.oneCell') = true := all_oneCell_toArray (by simp [zr, Value.oneCell'])
theorem run_zr {W : World} {b : Nat} (h : CL W b zr) : (loadVar 42 ⟨b, 0, none⟩).run Tryz.prog W = .ok (.agg zr.toArray) W :=
  run_loadVar_mid W b 0 42 zr _ (fun j v e => by have := h.c j v e; rwa [Nat.zero_add]) Tryz.underlying42 rfl (by rw [i46]; rfl)
theorem results_cell2x {fn : Func} {p q : Tmp} {ty ty2 : TypeId} (h : fn.results = #[.cell p ty, .cell q ty2]) (tmps : Array Value) (P : Program) (w : World) {a b : Addr} {v1 v2 : Value}
    (ha : tmps[p]?.getD undef = .pointer (some a)) (hb : tmps[q]?.getD undef = .pointer (some b)) (h1 : (loadVar ty a).run P w = .ok v1 w) (h2 : (loadVar ty2 b).run P w = .ok v2 w) : (results fn tmps).run P w = .ok (.tuple #[v1, v2]) w := by
  simp only [results, h]
  simp [Sem.run_bind, Result.andThen, asAddr, ha, hb, h1, h2]
theorem wpList_load_want {P : Program} {w : World} {ops : Array Oper} {rest : List Oper} {o : Oper} {a : Act} {Q : Exit → Act → World → Prop} (hw : Region.wanted o (yielded ops a.tmps) = true) (ty : TypeId) (x : Operand) (ho : o.op = .load ty x) (ad : Addr) (hx : a.eval x = .pointer (some ad)) (v : Value)
    (hr : (loadVar ty ad).run P w = .ok v w) (h : wpList P ops Q rest (a.put o.dst v) w) : wpList P ops Q (o :: rest) a w :=
  BigFrame.wpList_want hw fun _ hK => by
    unfold Oper.wp execOp
    simp only [ho, hx, Instr.loadAt, Instr.sureAddr, Sem.run_bind, Sem.run_pure, Result.andThen_ok, hr]
    exact hK _ _ h

/-- No transaction: nil, or the zero one. -/
structure NZ (w : World) (v : Value) : Prop where
  go : v = .pointer none ∨ ∃ b, v = .pointer (some ⟨b, 0, none⟩) ∧ w.cell? ⟨b, 0, none⟩ = some (.pointer none) ∧ w.cell? ⟨b, 12, none⟩ = some (.bool false)
theorem NZ.new {w w' : World} {v : Value} (h : NZ w v) (k : Keeps (fun _ => False) w w') : NZ w' v := by
  rcases h.go with h | ⟨b, h, h0, h12⟩
  · exact ⟨.inl h⟩
  · exact ⟨.inr ⟨b, h, k.cell h0 (fun e => e), k.cell h12 (fun e => e)⟩⟩
set_option maxHeartbeats 800000 in
set_option maxRecDepth 1000000 in
theorem aState0 (w : World)  : Calls Tryz.prog 24 #[.pointer none] w fun e w' => e = .returned (.int .i64 3) ∧ w' = w := by
  have hp : ∀ w : World, (binOp .eql 24 (.pointer none) (.pointer none)).run Tryz.prog w = .ok (.bool true) w := fun _ => rfl
  go_enter Tryz.func24, Tryz.ntmps24
  go_wp2
  go_ret
  exact ⟨rfl, rfl⟩
set_option maxHeartbeats 800000 in
set_option maxRecDepth 1000000 in
theorem aRank0 (w : World)  : Calls Tryz.prog 26 #[.pointer none] w fun e w' => e = .returned (.int .i64 0) ∧ w' = w := by
  have hp : ∀ w : World, (binOp .eql 24 (.pointer none) (.pointer none)).run Tryz.prog w = .ok (.bool true) w := fun _ => rfl
  go_enter Tryz.func26, Tryz.ntmps26
  go_wp2
  go_ret
  exact ⟨rfl, rfl⟩
set_option maxHeartbeats 800000 in
set_option maxRecDepth 1000000 in
theorem aOwns0 (w : World) (ob : Int) : Calls Tryz.prog 28 #[.pointer none, .int .i64 ob] w fun e w' => e = .returned (.bool false) ∧ w' = w := by
  have hp : ∀ w : World, (binOp .eql 24 (.pointer none) (.pointer none)).run Tryz.prog w = .ok (.bool true) w := fun _ => rfl
  go_enter Tryz.func28, Tryz.ntmps28
  go_wp2
  go_ret
  exact ⟨rfl, rfl⟩
set_option maxHeartbeats 800000 in
set_option maxRecDepth 1000000 in
theorem aReads0 (w : World)  : Calls Tryz.prog 29 #[.pointer none] w fun e w' => e = .returned (.int .i64 0) ∧ w' = w := by
  have hp : ∀ w : World, (binOp .eql 24 (.pointer none) (.pointer none)).run Tryz.prog w = .ok (.bool true) w := fun _ => rfl
  go_enter Tryz.func29, Tryz.ntmps29
  go_wp2
  go_ret
  exact ⟨rfl, rfl⟩
set_option maxHeartbeats 800000 in
set_option maxRecDepth 1000000 in
theorem aRefuses0 (w : World)  : Calls Tryz.prog 56 #[.pointer none] w fun e w' => e = .returned (.int .i64 80) ∧ w' = w := by
  have hp : ∀ w : World, (binOp .eql 24 (.pointer none) (.pointer none)).run Tryz.prog w = .ok (.bool true) w := fun _ => rfl
  go_enter Tryz.func56, Tryz.ntmps56
  go_wp2_with (go_at_call 24; refine (aState0 _).mono ?_; rintro e w1 ⟨rfl, rfl⟩)
  go_ret
  exact ⟨rfl, rfl⟩
set_option maxHeartbeats 800000 in
set_option maxRecDepth 1000000 in
theorem aRefobj0 (w : World) (ob : Int) : Calls Tryz.prog 47 #[.pointer none, .int .i64 ob] w fun e w' => e = .returned (.int .i64 80) ∧ w' = w := by
  have hp : ∀ w : World, (binOp .eql 24 (.pointer none) (.pointer none)).run Tryz.prog w = .ok (.bool true) w := fun _ => rfl
  go_enter Tryz.func47, Tryz.ntmps47
  go_wp2_with (go_at_call 56; refine (aRefuses0 _).mono ?_; rintro e w1 ⟨rfl, rfl⟩)
  go_ret
  exact ⟨rfl, rfl⟩
set_option maxHeartbeats 800000 in
set_option maxRecDepth 1000000 in
theorem aRead0 (w : World) (ob : Int) : Calls Tryz.prog 35 #[.pointer none, .int .i64 ob] w fun e w' => e = .returned (.int .i64 80) ∧ w' = w := by
  have hp : ∀ w : World, (binOp .eql 24 (.pointer none) (.pointer none)).run Tryz.prog w = .ok (.bool true) w := fun _ => rfl
  go_enter Tryz.func35, Tryz.ntmps35
  go_wp2_with (go_at_call 47; refine (aRefobj0 _ _).mono ?_; rintro e w1 ⟨rfl, rfl⟩)
  go_ret
  exact ⟨rfl, rfl⟩
set_option maxHeartbeats 800000 in
set_option maxRecDepth 1000000 in
theorem aWrite0 (w : World) (ob : Int) : Calls Tryz.prog 36 #[.pointer none, .int .i64 ob] w fun e w' => e = .returned (.int .i64 80) ∧ w' = w := by
  have hp : ∀ w : World, (binOp .eql 24 (.pointer none) (.pointer none)).run Tryz.prog w = .ok (.bool true) w := fun _ => rfl
  go_enter Tryz.func36, Tryz.ntmps36
  go_wp2_with (go_at_call 47; refine (aRefobj0 _ _).mono ?_; rintro e w1 ⟨rfl, rfl⟩)
  go_ret
  exact ⟨rfl, rfl⟩
set_option maxHeartbeats 800000 in
set_option maxRecDepth 1000000 in
theorem aPut0 (w : World) (ob : Int) (va vb : Int) (vd : Bool) : Calls Tryz.prog 37 #[.pointer none, .int .i64 ob, .agg #[.int .i64 va, .int .i64 vb, .bool vd]] w fun e w' => e = .returned (.int .i64 80) ∧ Keeps (fun _ => False) w w' := by
  have hp : ∀ w : World, (binOp .eql 24 (.pointer none) (.pointer none)).run Tryz.prog w = .ok (.bool true) w := fun _ => rfl
  go_enter Tryz.func37, Tryz.ntmps37
  go_wp2_with (go_at_call 47; refine (aRefobj0 _ _).mono ?_; rintro e w1 ⟨rfl, rfl⟩)
  go_ret
  exact ⟨rfl, (Keeps.refl _ _).alloc _⟩
set_option maxHeartbeats 800000 in
set_option maxRecDepth 1000000 in
theorem aRelease0 (w : World) (ob : Int) : Calls Tryz.prog 34 #[.pointer none, .int .i64 ob] w fun e w' => e = .returned (.tuple #[.int .i64 0, .int .i64 80]) ∧ w' = w := by
  have hp : ∀ w : World, (binOp .eql 24 (.pointer none) (.pointer none)).run Tryz.prog w = .ok (.bool true) w := fun _ => rfl
  go_enter Tryz.func34, Tryz.ntmps34
  go_wp2_with (go_at_call 47; refine (aRefobj0 _ _).mono ?_; rintro e w1 ⟨rfl, rfl⟩)
  refine bodyPost_ret (v := .tuple #[.int .i64 0, .int .i64 80]) (by simp [results, Tryz.f34, go_sem]) rfl ⟨rfl, rfl⟩
set_option maxHeartbeats 800000 in
set_option maxRecDepth 1000000 in
theorem aFinish0 (w : World)  : Calls Tryz.prog 38 #[.pointer none] w fun e w' => e = .returned (.int .i64 80) ∧ w' = w := by
  have hp : ∀ w : World, (binOp .eql 24 (.pointer none) (.pointer none)).run Tryz.prog w = .ok (.bool true) w := fun _ => rfl
  go_enter Tryz.func38, Tryz.ntmps38
  go_wp2_with (go_at_call 56; refine (aRefuses0 _).mono ?_; rintro e w1 ⟨rfl, rfl⟩)
  go_ret
  exact ⟨rfl, rfl⟩
set_option maxHeartbeats 800000 in
set_option maxRecDepth 1000000 in
theorem aQuit0 (w : World) (ob : Int) : Calls Tryz.prog 39 #[.pointer none, .int .i64 ob] w fun e w' => e = .returned (.int .i64 80) ∧ w' = w := by
  have hp : ∀ w : World, (binOp .eql 24 (.pointer none) (.pointer none)).run Tryz.prog w = .ok (.bool true) w := fun _ => rfl
  go_enter Tryz.func39, Tryz.ntmps39
  go_wp2_with (go_at_call 56; refine (aRefuses0 _).mono ?_; rintro e w1 ⟨rfl, rfl⟩)
  go_ret
  exact ⟨rfl, rfl⟩
set_option maxHeartbeats 800000 in
set_option maxRecDepth 1000000 in
theorem aStep0 (w : World) : Calls Tryz.prog 41 #[.pointer none] w fun e w' => e = .returned (.tuple #[.agg zr.toArray, .int .i64 80]) ∧ Keeps (fun _ => False) w w' := by
  obtain ⟨w0, hw0⟩ : ∃ w0, w0 = ((w.alloc (.cells #[.pointer none] 24)).alloc (.cells #[.int .i64 0, .int .i64 0, .int .i64 0, .int .i64 0, .int .i64 0, .int .i64 0, .int .i64 0, .int .i64 0, .int .i64 0, .int .i64 0, .int .i64 0, .int .i64 0, .int .i64 0, .bool false, .bool false, .bool false, .int .i64 0, .bool false, .int .i64 0, .int .i64 0, .bool false, .bool false, .int .i64 0, .int .i64 0, .bool false, .int .i64 0] 42)).alloc (.cells #[.int .i64 0] 43) := ⟨_, rfl⟩
  have k0 : Keeps (fun _ => False) w w0 := by rw [hw0]; exact (((Keeps.refl _ w).alloc _).alloc _).alloc _
  have hb : CL w0 (w.heap.size + 1) zr := by
    rw [hw0]
    have := CL.made (w.alloc (.cells #[.pointer none] 24)) zr 42
    rw [show (w.alloc (.cells #[.pointer none] 24)).heap.size = w.heap.size + 1 by simp] at this
    exact this.alloc (by show 0 < 26; decide) _
  have ca : CL w0 w.heap.size [.pointer none] := by
    rw [hw0]
    exact ((CL.made w [.pointer none] 24).alloc (by show 0 < 1; decide) _).alloc (by show 0 < 1; decide) _
  have ce : CL w0 (w.heap.size + 1 + 1) [.int .i64 0] := by
    rw [hw0]
    refine cast ?_ (CL.made ((w.alloc (.cells #[.pointer none] 24)).alloc (.cells #[.int .i64 0, .int .i64 0, .int .i64 0, .int .i64 0, .int .i64 0, .int .i64 0, .int .i64 0, .int .i64 0, .int .i64 0, .int .i64 0, .int .i64 0, .int .i64 0, .int .i64 0, .bool false, .bool false, .bool false, .int .i64 0, .bool false, .int .i64 0, .int .i64 0, .bool false, .bool false, .int .i64 0, .int .i64 0, .bool false, .int .i64 0] 42)) [.int .i64 0] 43)
    congr 1
    simp
  have a0 := ca.c 0 _ rfl
  have hs := aState0 w0
  have nb2 : ¬ w.heap.size + 1 + 1 = w.heap.size + 1 := by omega
  go_enter_defers Tryz.func41, Tryz.ntmps41
  go_wp2_with fail
  rw [← hw0]
  clear hw0
  refine hs.mono ?_
  clear hs
  rintro e w1 ⟨rfl, rfl⟩
  go_wp2_with (refine wpList_store_cl rfl 42 _ _ rfl (w.heap.size + 1) 0 26 _ rfl rfl rfl hb (by show 26 ≤ 26; decide) i46 zr_one ?_; intro w5 hb5 k5 _; have ce5 := ce.keep (by show 0 < 1; decide) k5 nb2; have e5 := ce5.c 0 _ rfl; have ze5 := ce5.z 0 (by show 0 < 1; decide); clear a0)
  have hb6 := hb5.other (p := ⟨w.heap.size + 1 + 1, 0, none⟩) nb2 (.int .i64 80)
  have ce6 := ce5.set (o := 0) (by show 0 < 1; decide) (.int .i64 80)
  have k6 : Keeps (fun k => k = w.heap.size + 1 ∨ k = w.heap.size + 1 + 1) w1 (w5.setCell ⟨w.heap.size + 1 + 1, 0, none⟩ (.int .i64 80)) := (k5.mono (fun _ _ e => .inl e)).setCell (fun _ => .inr rfl) _
  have hr6 := run_zr hb6
  have e6 := ce6.c 0 _ rfl
  refine ⟨.tuple #[.agg zr.toArray, .int .i64 80], ?_, rfl, k0.trans' k6 (fun _ _ e => e) (fun i hi e => by omega)⟩
  refine results_cell2x Tryz.results41 _ _ _ (a := ⟨w.heap.size + 1, 0, none⟩) (b := ⟨w.heap.size + 1 + 1, 0, none⟩) rfl rfl hr6 ?_
  clear hb6 ce6 hb5 ce5 e5 ze5 hr6
  generalize w5.setCell ⟨w.heap.size + 1 + 1, 0, none⟩ (.int .i64 80) = w6 at *
  go_simp
set_option maxHeartbeats 800000 in
set_option maxRecDepth 1000000 in
theorem isNone_z {w : World} {v : Value} (h : NZ w v) : Calls Tryz.prog 23 #[v] w fun e w' => e = .returned (.bool true) ∧ w' = w := by
  have hn : ∀ w : World, (binOp .eql 36 (.pointer none) (.pointer none)).run Tryz.prog w = .ok (.bool true) w := fun _ => rfl
  have hp : ∀ (b : Nat) (w : World), (binOp .eql 36 (.pointer (some ⟨b, 0, none⟩)) (.pointer none)).run Tryz.prog w = .ok (.bool false) w := fun _ _ => rfl
  rcases h.go with rfl | ⟨b, rfl, c0, c12⟩
  · go_enter Tryz.func23, Tryz.ntmps23
    go_wp2
    go_ret
    exact ⟨rfl, rfl⟩
  · go_enter Tryz.func23, Tryz.ntmps23
    go_wp2
    go_ret
    exact ⟨rfl, rfl⟩
set_option maxHeartbeats 800000 in
set_option maxRecDepth 1000000 in
theorem present_z {w : World} {v : Value} (h : NZ w v) : Calls Tryz.prog 25 #[v] w fun e w' => e = .returned (.pointer none) ∧ w' = w := by
  have hn : ∀ w : World, (binOp .eql 36 (.pointer none) (.pointer none)).run Tryz.prog w = .ok (.bool true) w := fun _ => rfl
  have hp : ∀ (b : Nat) (w : World), (binOp .eql 36 (.pointer (some ⟨b, 0, none⟩)) (.pointer none)).run Tryz.prog w = .ok (.bool false) w := fun _ _ => rfl
  rcases h.go with rfl | ⟨b, rfl, c0, c12⟩
  · go_enter Tryz.func25, Tryz.ntmps25
    go_wp2
    go_ret
    exact ⟨rfl, rfl⟩
  · go_enter Tryz.func25, Tryz.ntmps25
    go_wp2
    go_ret
    exact ⟨rfl, rfl⟩
set_option maxHeartbeats 800000 in
set_option maxRecDepth 1000000 in
theorem state_z {w : World} {v : Value} (h : NZ w v)  : Calls Tryz.prog 5 #[v] w fun e w' => e = .returned (.int .i64 3) ∧ w' = w := by
  have hq : ∀ w : World, (binOp .eql 24 (.pointer none) (.pointer none)).run Tryz.prog w = .ok (.bool true) w := fun _ => rfl
  go_enter Tryz.func5, Tryz.ntmps5
  go_wp2_with (go_at_call 23; refine (isNone_z h).mono ?_; rintro e w1 ⟨rfl, rfl⟩)
  go_ret
  exact ⟨rfl, rfl⟩
set_option maxHeartbeats 800000 in
set_option maxRecDepth 1000000 in
theorem isFresh_z {w : World} {v : Value} (h : NZ w v)  : Calls Tryz.prog 30 #[v] w fun e w' => e = .returned (.bool false) ∧ w' = w := by
  have hq : ∀ w : World, (binOp .eql 24 (.pointer none) (.pointer none)).run Tryz.prog w = .ok (.bool true) w := fun _ => rfl
  go_enter Tryz.func30, Tryz.ntmps30
  go_wp2_with (go_at_call 5; refine (state_z h).mono ?_; rintro e w1 ⟨rfl, rfl⟩)
  go_ret
  exact ⟨rfl, rfl⟩
set_option maxHeartbeats 800000 in
set_option maxRecDepth 1000000 in
theorem thread_z {w : World} {v : Value} (h : NZ w v)  : Calls Tryz.prog 11 #[v] w fun e w' => e = .returned (.int .i64 (-1)) ∧ w' = w := by
  have hq : ∀ w : World, (binOp .eql 24 (.pointer none) (.pointer none)).run Tryz.prog w = .ok (.bool true) w := fun _ => rfl
  go_enter Tryz.func11, Tryz.ntmps11
  go_wp2_with (go_at_call 23; refine (isNone_z h).mono ?_; rintro e w1 ⟨rfl, rfl⟩)
  go_ret
  exact ⟨rfl, rfl⟩
set_option maxHeartbeats 800000 in
set_option maxRecDepth 1000000 in
theorem job_z {w : World} {v : Value} (h : NZ w v)  : Calls Tryz.prog 12 #[v] w fun e w' => e = .returned (.int .i64 (-1)) ∧ w' = w := by
  have hq : ∀ w : World, (binOp .eql 24 (.pointer none) (.pointer none)).run Tryz.prog w = .ok (.bool true) w := fun _ => rfl
  go_enter Tryz.func12, Tryz.ntmps12
  go_wp2_with (go_at_call 23; refine (isNone_z h).mono ?_; rintro e w1 ⟨rfl, rfl⟩)
  go_ret
  exact ⟨rfl, rfl⟩
set_option maxHeartbeats 800000 in
set_option maxRecDepth 1000000 in
theorem outcome_z {w : World} {v : Value} (h : NZ w v)  : Calls Tryz.prog 6 #[v] w fun e w' => e = .returned (.int .i64 (0)) ∧ w' = w := by
  have hq : ∀ w : World, (binOp .eql 24 (.pointer none) (.pointer none)).run Tryz.prog w = .ok (.bool true) w := fun _ => rfl
  go_enter Tryz.func6, Tryz.ntmps6
  go_wp2_with (go_at_call 23; refine (isNone_z h).mono ?_; rintro e w1 ⟨rfl, rfl⟩)
  go_ret
  exact ⟨rfl, rfl⟩
set_option maxHeartbeats 800000 in
set_option maxRecDepth 1000000 in
theorem tries_z {w : World} {v : Value} (h : NZ w v)  : Calls Tryz.prog 7 #[v] w fun e w' => e = .returned (.int .i64 (0)) ∧ w' = w := by
  have hq : ∀ w : World, (binOp .eql 24 (.pointer none) (.pointer none)).run Tryz.prog w = .ok (.bool true) w := fun _ => rfl
  go_enter Tryz.func7, Tryz.ntmps7
  go_wp2_with (go_at_call 23; refine (isNone_z h).mono ?_; rintro e w1 ⟨rfl, rfl⟩)
  go_ret
  exact ⟨rfl, rfl⟩
set_option maxHeartbeats 800000 in
set_option maxRecDepth 1000000 in
theorem stamp_z {w : World} {v : Value} (h : NZ w v)  : Calls Tryz.prog 8 #[v] w fun e w' => e = .returned (.int .i64 (-1)) ∧ w' = w := by
  have hq : ∀ w : World, (binOp .eql 24 (.pointer none) (.pointer none)).run Tryz.prog w = .ok (.bool true) w := fun _ => rfl
  go_enter Tryz.func8, Tryz.ntmps8
  go_wp2_with (go_at_call 23; refine (isNone_z h).mono ?_; rintro e w1 ⟨rfl, rfl⟩)
  go_ret
  exact ⟨rfl, rfl⟩
set_option maxHeartbeats 800000 in
set_option maxRecDepth 1000000 in
theorem rank_z {w : World} {v : Value} (h : NZ w v)  : Calls Tryz.prog 9 #[v] w fun e w' => e = .returned (.int .i64 0) ∧ w' = w := by
  have hq : ∀ w : World, (binOp .eql 24 (.pointer none) (.pointer none)).run Tryz.prog w = .ok (.bool true) w := fun _ => rfl
  go_enter Tryz.func9, Tryz.ntmps9
  go_wp2_with (first | (go_at_call 25; refine (present_z h).mono ?_; rintro e w1 ⟨rfl, rfl⟩) | (go_at_call 26; refine (aRank0 _).mono ?_; rintro e w1 ⟨rfl, rfl⟩))
  go_ret
  exact ⟨rfl, rfl⟩
set_option maxHeartbeats 800000 in
set_option maxRecDepth 1000000 in
theorem number_z {w : World} {v : Value} (h : NZ w v)  : Calls Tryz.prog 10 #[v] w fun e w' => e = .returned (.int .i64 (-1)) ∧ w' = w := by
  have hq : ∀ w : World, (binOp .eql 24 (.pointer none) (.pointer none)).run Tryz.prog w = .ok (.bool true) w := fun _ => rfl
  go_enter Tryz.func10, Tryz.ntmps10
  go_wp2_with (go_at_call 25; refine (present_z h).mono ?_; rintro e w1 ⟨rfl, rfl⟩)
  go_ret
  exact ⟨rfl, rfl⟩
set_option maxHeartbeats 800000 in
set_option maxRecDepth 1000000 in
theorem owns_z {w : World} {v : Value} (h : NZ w v) (ob : Int) : Calls Tryz.prog 13 #[v, .int .i64 ob] w fun e w' => e = .returned (.bool false) ∧ w' = w := by
  have hq : ∀ w : World, (binOp .eql 24 (.pointer none) (.pointer none)).run Tryz.prog w = .ok (.bool true) w := fun _ => rfl
  go_enter Tryz.func13, Tryz.ntmps13
  go_wp2_with (first | (go_at_call 25; refine (present_z h).mono ?_; rintro e w1 ⟨rfl, rfl⟩) | (go_at_call 28; refine (aOwns0 _ _).mono ?_; rintro e w1 ⟨rfl, rfl⟩))
  go_ret
  exact ⟨rfl, rfl⟩
set_option maxHeartbeats 800000 in
set_option maxRecDepth 1000000 in
theorem reads_z {w : World} {v : Value} (h : NZ w v)  : Calls Tryz.prog 14 #[v] w fun e w' => e = .returned (.int .i64 0) ∧ w' = w := by
  have hq : ∀ w : World, (binOp .eql 24 (.pointer none) (.pointer none)).run Tryz.prog w = .ok (.bool true) w := fun _ => rfl
  go_enter Tryz.func14, Tryz.ntmps14
  go_wp2_with (first | (go_at_call 25; refine (present_z h).mono ?_; rintro e w1 ⟨rfl, rfl⟩) | (go_at_call 29; refine (aReads0 _).mono ?_; rintro e w1 ⟨rfl, rfl⟩))
  go_ret
  exact ⟨rfl, rfl⟩
set_option maxHeartbeats 800000 in
set_option maxRecDepth 1000000 in
theorem read_z {w : World} {v : Value} (h : NZ w v) (ob : Int) : Calls Tryz.prog 18 #[v, .int .i64 ob] w fun e w' => e = .returned (.int .i64 80) ∧ w' = w := by
  have hq : ∀ w : World, (binOp .eql 24 (.pointer none) (.pointer none)).run Tryz.prog w = .ok (.bool true) w := fun _ => rfl
  go_enter Tryz.func18, Tryz.ntmps18
  go_wp2_with (first | (go_at_call 30; refine (isFresh_z h).mono ?_; rintro e w1 ⟨rfl, rfl⟩) | (go_at_call 25; refine (present_z h).mono ?_; rintro e w1 ⟨rfl, rfl⟩) | (go_at_call 35; refine (aRead0 _ _).mono ?_; rintro e w1 ⟨rfl, rfl⟩))
  go_ret
  exact ⟨rfl, rfl⟩
set_option maxHeartbeats 800000 in
set_option maxRecDepth 1000000 in
theorem write_z {w : World} {v : Value} (h : NZ w v) (ob : Int) : Calls Tryz.prog 19 #[v, .int .i64 ob] w fun e w' => e = .returned (.int .i64 80) ∧ w' = w := by
  have hq : ∀ w : World, (binOp .eql 24 (.pointer none) (.pointer none)).run Tryz.prog w = .ok (.bool true) w := fun _ => rfl
  go_enter Tryz.func19, Tryz.ntmps19
  go_wp2_with (first | (go_at_call 30; refine (isFresh_z h).mono ?_; rintro e w1 ⟨rfl, rfl⟩) | (go_at_call 25; refine (present_z h).mono ?_; rintro e w1 ⟨rfl, rfl⟩) | (go_at_call 36; refine (aWrite0 _ _).mono ?_; rintro e w1 ⟨rfl, rfl⟩))
  go_ret
  exact ⟨rfl, rfl⟩
set_option maxHeartbeats 800000 in
set_option maxRecDepth 1000000 in
theorem release_z {w : World} {v : Value} (h : NZ w v) (ob : Int) : Calls Tryz.prog 16 #[v, .int .i64 ob] w fun e w' => e = .returned (.tuple #[.int .i64 0, .int .i64 80]) ∧ w' = w := by
  have hq : ∀ w : World, (binOp .eql 24 (.pointer none) (.pointer none)).run Tryz.prog w = .ok (.bool true) w := fun _ => rfl
  go_enter Tryz.func16, Tryz.ntmps16
  go_wp2_with (first | (go_at_call 30; refine (isFresh_z h).mono ?_; rintro e w1 ⟨rfl, rfl⟩) | (go_at_call 25; refine (present_z h).mono ?_; rintro e w1 ⟨rfl, rfl⟩) | (go_at_call 34; refine (aRelease0 _ _).mono ?_; rintro e w1 ⟨rfl, rfl⟩))
  refine bodyPost_ret (v := .tuple #[.int .i64 0, .int .i64 80]) (by simp [results, Tryz.f16, go_sem]) rfl ⟨rfl, rfl⟩
set_option maxHeartbeats 800000 in
set_option maxRecDepth 1000000 in
theorem finish_z {w : World} {v : Value} (h : NZ w v)  : Calls Tryz.prog 21 #[v] w fun e w' => e = .returned (.int .i64 80) ∧ w' = w := by
  have hq : ∀ w : World, (binOp .eql 24 (.pointer none) (.pointer none)).run Tryz.prog w = .ok (.bool true) w := fun _ => rfl
  go_enter Tryz.func21, Tryz.ntmps21
  go_wp2_with (first | (go_at_call 30; refine (isFresh_z h).mono ?_; rintro e w1 ⟨rfl, rfl⟩) | (go_at_call 25; refine (present_z h).mono ?_; rintro e w1 ⟨rfl, rfl⟩) | (go_at_call 38; refine (aFinish0 _).mono ?_; rintro e w1 ⟨rfl, rfl⟩))
  go_ret
  exact ⟨rfl, rfl⟩
set_option maxHeartbeats 800000 in
set_option maxRecDepth 1000000 in
theorem quit_z {w : World} {v : Value} (h : NZ w v) (ob : Int) : Calls Tryz.prog 22 #[v, .int .i64 ob] w fun e w' => e = .returned (.int .i64 80) ∧ w' = w := by
  have hq : ∀ w : World, (binOp .eql 24 (.pointer none) (.pointer none)).run Tryz.prog w = .ok (.bool true) w := fun _ => rfl
  go_enter Tryz.func22, Tryz.ntmps22
  go_wp2_with (first | (go_at_call 30; refine (isFresh_z h).mono ?_; rintro e w1 ⟨rfl, rfl⟩) | (go_at_call 25; refine (present_z h).mono ?_; rintro e w1 ⟨rfl, rfl⟩) | (go_at_call 39; refine (aQuit0 _ _).mono ?_; rintro e w1 ⟨rfl, rfl⟩))
  go_ret
  exact ⟨rfl, rfl⟩
set_option maxHeartbeats 800000 in
set_option maxRecDepth 1000000 in
theorem put_z {w : World} {v : Value} (h : NZ w v) (ob va vb : Int) (vd : Bool) : Calls Tryz.prog 20 #[v, .int .i64 ob, .agg #[.int .i64 va, .int .i64 vb, .bool vd]] w fun e w' => e = .returned (.int .i64 80) ∧ Keeps (fun _ => False) w w' := by
  obtain ⟨w0, hw0⟩ : ∃ w0, w0 = w.alloc (.cells #[.int .i64 va, .int .i64 vb, .bool vd] 23) := ⟨_, rfl⟩
  have k0 : Keeps (fun _ => False) w w0 := by rw [hw0]; exact (Keeps.refl _ w).alloc _
  have hb : CL w0 w.heap.size [.int .i64 va, .int .i64 vb, .bool vd] := by rw [hw0]; exact CL.made _ _ _
  have h0 := h.new k0
  go_enter Tryz.func20, Tryz.ntmps20
  go_wp2_with fail
  rw [← hw0]
  clear hw0
  refine (isFresh_z h0).mono ?_
  rintro e w1 ⟨rfl, rfl⟩
  go_wp2_with fail
  have hb1 := hb.drew
  have h1 := h0.new (Keeps.refl _ w1).drew
  have b0 := hb1.c 0 _ rfl
  have b1 := hb1.c 1 _ rfl
  have b2 := hb1.c 2 _ rfl
  clear hb hb1 h0
  go_region_held3 (fun w' => w'.cell? ⟨w.heap.size, 0, none⟩ = some (.int .i64 va) ∧ w'.cell? ⟨w.heap.size, 1, none⟩ = some (.int .i64 vb) ∧ w'.cell? ⟨w.heap.size, 2, none⟩ = some (.bool vd)) (go_keep) (first | (go_at_call 25; refine (present_z h1).mono ?_; rintro e w2 ⟨rfl, rfl⟩) | (go_at_call 37; refine (aPut0 _ _ _ _ _).mono ?_; rintro e w3 ⟨rfl, k3⟩; have c0 := k3.cell b0 (fun e => e); have c1 := k3.cell b1 (fun e => e); have c2 := k3.cell b2 (fun e => e)))
  go_wp2_with fail
  go_ret
  exact ⟨rfl, k0.trans ((Keeps.refl (fun _ => False) w1).drew.trans k3)⟩
set_option maxHeartbeats 800000 in
set_option maxRecDepth 1000000 in
theorem goOn_z {w : World} {v : Value} (h : NZ w v) : Calls Tryz.prog 31 #[v] w fun e w' => e = .returned (.tuple #[.agg zr.toArray, .int .i64 80]) ∧ Keeps (fun _ => False) w w' := by
  obtain ⟨w0, hw0⟩ : ∃ w0, w0 = w.alloc (.cells #[.int .i64 0, .int .i64 0, .int .i64 0, .int .i64 0, .int .i64 0, .int .i64 0, .int .i64 0, .int .i64 0, .int .i64 0, .int .i64 0, .int .i64 0, .int .i64 0, .int .i64 0, .bool false, .bool false, .bool false, .int .i64 0, .bool false, .int .i64 0, .int .i64 0, .bool false, .bool false, .int .i64 0, .int .i64 0, .bool false, .int .i64 0] 42) := ⟨_, rfl⟩
  have k0 : Keeps (fun _ => False) w w0 := by rw [hw0]; exact (Keeps.refl _ w).alloc _
  have hb : CL w0 w.heap.size zr := by rw [hw0]; exact CL.made _ zr _
  have h0 := h.new k0
  go_enter Tryz.func31, Tryz.ntmps31
  go_wp2_with fail
  rw [← hw0]
  clear hw0
  refine (present_z h0).mono ?_
  rintro e w1 ⟨rfl, rfl⟩
  go_wp2_with fail
  refine (aStep0 _).mono ?_
  rintro e w2 ⟨rfl, k2⟩
  have hb2 := hb.keep (by show 0 < 26; decide) k2 (fun e => e)
  have lt2 : w.heap.size < w2.heap.size := hb2.lt (by show 0 < 26; decide)
  obtain ⟨w3, hw3⟩ : ∃ w3, w3 = w2.alloc (.cells #[.int .i64 0, .int .i64 0, .int .i64 0, .int .i64 0, .int .i64 0, .int .i64 0, .int .i64 0, .int .i64 0, .int .i64 0, .int .i64 0, .int .i64 0, .int .i64 0, .int .i64 0, .bool false, .bool false, .bool false, .int .i64 0, .bool false, .int .i64 0, .int .i64 0, .bool false, .bool false, .int .i64 0, .int .i64 0, .bool false, .int .i64 0] 42) := ⟨_, rfl⟩
  have k3 : Keeps (fun _ => False) w2 w3 := by rw [hw3]; exact (Keeps.refl _ w2).alloc _
  have hb3 := hb2.keep (by show 0 < 26; decide) k3 (fun e => e)
  have hc3 : CL w3 w2.heap.size zr := by rw [hw3]; exact CL.made _ zr _
  have nb : ¬ w.heap.size = w2.heap.size := by omega
  go_wp2_with (first | (rw [← hw3]; clear hw3; refine wpList_store_cl rfl 42 _ _ rfl w2.heap.size 0 26 _ rfl rfl rfl hc3 (by show 26 ≤ 26; decide) i46 zr_one ?_; intro w4 hc4 k4 _; have hb4 := hb3.keep (by show 0 < 26; decide) k4 nb; clear hc3 hb3) | (refine wpList_store_cl rfl 42 _ _ rfl w.heap.size 0 26 _ rfl rfl rfl hb4 (by show 26 ≤ 26; decide) i46 zr_one ?_; intro w5 hb5 k5 _))
  have kk : Keeps (fun _ => False) w w5 := (((k0.trans k2).trans k3).trans' k4 (fun _ _ e => e) (fun i hi e => by omega)).trans' k5 (fun _ _ e => e) (fun i hi e => by omega)
  refine bodyPost_ret (v := .tuple #[.agg zr.toArray, .int .i64 80]) ?_ rfl ⟨rfl, kk⟩
  have hr := run_zr hb5
  rw [results_cell_tmp rfl]
  simp [asAddr, hr, Result.andThen]
set_option maxHeartbeats 800000 in
set_option maxRecDepth 1000000 in
theorem step_z {w : World} {v : Value} (h : NZ w v) : Calls Tryz.prog 15 #[v] w fun e w' => e = .returned (.tuple #[.agg zr.toArray, .int .i64 80]) ∧ Keeps (fun _ => False) w w' := by
  obtain ⟨w0, hw0⟩ : ∃ w0, w0 = w.alloc (.cells #[.int .i64 0, .int .i64 0, .int .i64 0, .int .i64 0, .int .i64 0, .int .i64 0, .int .i64 0, .int .i64 0, .int .i64 0, .int .i64 0, .int .i64 0, .int .i64 0, .int .i64 0, .bool false, .bool false, .bool false, .int .i64 0, .bool false, .int .i64 0, .int .i64 0, .bool false, .bool false, .int .i64 0, .int .i64 0, .bool false, .int .i64 0] 42) := ⟨_, rfl⟩
  have k0 : Keeps (fun _ => False) w w0 := by rw [hw0]; exact (Keeps.refl _ w).alloc _
  have hb : CL w0 w.heap.size zr := by rw [hw0]; exact CL.made _ zr _
  have h0 := h.new k0
  go_enter Tryz.func15, Tryz.ntmps15
  go_wp2_with fail
  rw [← hw0]
  clear hw0
  refine (isFresh_z h0).mono ?_
  rintro e w1 ⟨rfl, rfl⟩
  go_wp2_with fail
  refine (goOn_z h0).mono ?_
  rintro e w2 ⟨rfl, k2⟩
  have hb2 := hb.keep (by show 0 < 26; decide) k2 (fun e => e)
  go_wp2_with (refine wpList_store_cl rfl 42 _ _ rfl w.heap.size 0 26 _ rfl rfl rfl hb2 (by show 26 ≤ 26; decide) i46 zr_one ?_; intro w5 hb5 k5 _)
  refine bodyPost_ret (v := .tuple #[.agg zr.toArray, .int .i64 80]) ?_ rfl ⟨rfl, (k0.trans k2).trans' k5 (fun _ _ e => e) (fun i hi e => by omega)⟩
  have hr := run_zr hb5
  rw [results_cell_tmp rfl]
  simp [asAddr, hr, Result.andThen]
end Go.Proofs.YtefnjcdcdfmgpaaGreatDoor
