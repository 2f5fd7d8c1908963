import Derived.Test.YtgcfckbmmdajhaaLiE
import Derived.Deep.MidRow
namespace Go.Proofs.Ytgcfckbmmdajhaa
open Go.RowKit Go.Maps Go.ChangeMaps Go.MapKept Go.WideShapes
theorem iCl : (Try.prog.info? 33).map (·.size) = some 8 := by kernel_rfl
theorem run_cl {W : World} {b o : Nat} {c : Cl} (hc : ∀ j v, c.cells[j]? = some v → W.cell? ⟨b, o + j, none⟩ = some v) : (loadVar 33 ⟨b, o, none⟩).run Try.prog W = .ok (.agg c.cells.toArray) W :=
  run_loadVar_mid W b o 33 c.cells _ hc Try.underlying33 rfl (by rw [iCl]; rfl)
theorem run_clB {W : World} {b : Nat} {c : Cl} (h : CL W b c.cells) : (loadVar 33 ⟨b, 0, none⟩).run Try.prog W = .ok (.agg c.cells.toArray) W := run_cl (fun j v e => by rw [Nat.zero_add]; exact h.c j v e)
theorem wpList_load_runL {P : Program} {w : World} {ops : Array Oper} {rest : List Oper} {o : Oper} {a : Act} {Q : Exit → Act → World → Prop} (hgd : o.guard = none) (ty : TypeId) (x : Operand) (ho : o.op = .load ty x) (p : Addr) (hx : a.eval x = .pointer (some p)) (v : Value) (hr : (loadVar ty p).run P w = .ok v w) (h : wpList P ops Q rest (a.put o.dst v) w) : wpList P ops Q (o :: rest) a w :=
  wpList_plain hgd fun _ hK => by
    unfold Oper.wp execOp
    simp only [ho, hx, Instr.loadAt, Instr.sureAddr, Sem.run_bind, Sem.run_pure, Result.andThen_ok, hr]
    exact hK _ _ h
/-- Goes a call on, with the set's answer y, r? -/
def goesP (c : Cl) (y : Bool) (r : Int) : Bool := !ansD c || (y == c.yes && r == c.result)
set_option maxHeartbeats 1000000 in
set_option maxRecDepth 100000 in
theorem goesOn_any {w : World} {mb n : Nat} {f : Int → Bool} (h : SV w mb n f) (c : Cl) (h1 : I64 c.key) (h2 : I64 c.other) (hn : n < 9223372036854775806) : Calls Try.prog 16 #[.map (some mb), .agg c.cells.toArray] w fun e w' => ∃ y r n' f', e = .returned (.bool (goesP c y r)) ∧ Did c n f y r n' f' ∧ SV w' mb n' f' ∧ Keeps (fun i => i = mb) w w' := by
  have lt := h.lt
  obtain ⟨W0, e0, k0, hb, z0⟩ := cl_box w c
  have hld := run_clB hb.cl
  have hdo := do_any (h.keep k0 (fun e => e)) c h1 h2 hn
  have HB : Hid (CB W0 w.heap.size c) := hb
  have Z0 : Hid (W0.heap.size = w.heap.size + 1) := z0
  have HAN : Hid (∀ W, Calls Try.prog 24 #[.agg c.cells.toArray] W fun e w' => e = .returned (.bool (ansD c)) ∧ Keeps (fun _ => False) W w') := fun W => answered_any W c
  clear h hb z0
  unfold goesP
  generalize hA : ansD c = A at *
  clear hA
  go_enter Try.func16, Try.ntmps16
  refine wp_seq_k (fun KK hKK => ?_)
  have hKH : Hid _ := hKK
  clear hKK
  go_wp2_with fail
  refine hKH.out _ _ ?_
  clear hKH KK
  rw [← e0]
  clear e0
  refine wp_seq_k (fun KK hKK => ?_)
  have hKH : Hid _ := hKK
  clear hKK
  go_wp2_with (first | (refine wpList_load_runL rfl 33 _ rfl ⟨w.heap.size, 0, none⟩ rfl _ hld ?_; clear hld) | (go_at_call 23; refine hdo.mono ?_; clear hdo; rintro e w2 ⟨y, r, n', f', rfl, hD, hS, k2⟩; have HD : Hid (Did c n f y r n' f' ∧ SV w2 mb n' f' ∧ Keeps (fun i => i = mb) W0 w2) := ⟨hD, hS, k2⟩; clear hD hS; obtain ⟨W3, hW3⟩ : ∃ W3, W3 = w2.alloc (.cells #[.bool false, .int .i64 0] 61) := ⟨_, rfl⟩; have hC3 : CL W3 w2.heap.size [.bool false, .int .i64 0] := (by rw [hW3]; exact CL.made w2 [.bool false, .int .i64 0] _); have k3 : Keeps (fun _ => False) w2 W3 := (by rw [hW3]; exact (Keeps.refl _ w2).alloc _); have HW3 : Hid (W3 = w2.alloc (.cells #[.bool false, .int .i64 0] 61)) := hW3; clear hW3) | (rw [← HW3.out]; clear HW3; refine wpList_store_cl rfl 61 _ _ rfl w2.heap.size 0 2 _ rfl rfl rfl hC3 (by show 2 ≤ 2; decide) (by kernel_rfl) (by simp [Value.oneCell']) ?_; intro w4 hc4 k4 z4; clear z4 hC3; have hI4 : CL w4 w2.heap.size [.bool y, .int .i64 r] := hc4; clear hc4))
  refine hKH.out _ _ ?_
  clear hKH KK
  have k24 : Keeps (fun _ => False) w2 w4 := k3.trans' k4 (fun _ _ e => e) (fun i hi e => by have e : i = w2.heap.size := e; omega)
  clear k3 k4
  have hb4 : CL w4 w.heap.size c.cells := (HB.out.cl.keep (by show 0 < 8; decide) k2 (fun e => by have e : w.heap.size = mb := e; omega)).keep (by show 0 < 8; decide) k24 (fun e => e)
  have hld := run_clB hb4
  have han := HAN.out w4
  cases A with
  | false =>
    go_wp2_with (first | (refine wpList_load_runL rfl 33 _ rfl ⟨w.heap.size, 0, none⟩ rfl _ hld ?_; clear hld) | (go_at_call 24; refine han.mono ?_; clear han; rintro e w5 ⟨rfl, k5⟩))
    go_ret
    obtain ⟨hD, hS, k2⟩ := HD.out
    exact ⟨y, r, n', f', rfl, hD, (hS.keep k24 (fun e => e)).keep k5 (fun e => e), ((k0.trans' k2 (U := fun i => i = mb) (fun _ _ e => e.elim) (fun _ _ e => e)).trans' k24 (fun _ _ e => e) (fun _ _ e => e.elim)).trans' k5 (fun _ _ e => e) (fun _ _ e => e.elim)⟩
  | true =>
    go_wp2_with (first | (refine wpList_load_runL rfl 33 _ rfl ⟨w.heap.size, 0, none⟩ rfl _ hld ?_; clear hld) | (go_at_call 24; refine han.mono ?_; clear han; rintro e w5 ⟨rfl, k5⟩; have hI5 := hI4.keep (by show 0 < 2; decide) k5 (fun e => e); have d0 := hI5.c 0 _ rfl; have d1 := hI5.c 1 _ rfl; have hb5 := hb4.keep (by show 0 < 8; decide) k5 (fun e => e); have c3 : w5.cell? ⟨w.heap.size, 3, none⟩ = some (.bool c.yes) := hb5.c 3 _ rfl; have c4 : w5.cell? ⟨w.heap.size, 4, none⟩ = some (.int .i64 c.result) := hb5.c 4 _ rfl; clear hb5 hb4 hI5 hI4))
    all_goals
      go_ret
      obtain ⟨hD, hS, k2⟩ := HD.out
      refine ⟨_, _, _, _, ?_, hD, (hS.keep k24 (fun e => e)).keep k5 (fun e => e), ((k0.trans' k2 (U := fun i => i = mb) (fun _ _ e => e.elim) (fun _ _ e => e)).trans' k24 (fun _ _ e => e) (fun _ _ e => e.elim)).trans' k5 (fun _ _ e => e) (fun _ _ e => e.elim)⟩
      simp_all
end Go.Proofs.Ytgcfckbmmdajhaa
