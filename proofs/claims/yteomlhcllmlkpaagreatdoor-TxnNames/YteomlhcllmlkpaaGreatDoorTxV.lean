import Derived.Test.YteomlhcllmlkpaaGreatDoorTxK
namespace Go.Proofs.YteomlhcllmlkpaaGreatDoor
open Go.RowKit Go.Maps Go.ChangeMaps Go.MapKept Go.WideShapes
attribute [local go_sem] Oper.semAt_some run_store_nf run_store_f
section
variable {w w' : World}
theorem uV : Tryz.prog.underlying 51 = some (.slice 44) := by kernel_rfl
theorem iV0 : (Tryz.prog.info? 44).map (fun i => (i.zero, i.size, i.bytes)) = some (some (.agg #[.int .i64 0, .int .i64 0, .bool false]), 3, 24) := by kernel_rfl
theorem iV : ∃ i, Tryz.prog.info? 44 = some i ∧ i.zero = some (.agg #[.int .i64 0, .int .i64 0, .bool false]) ∧ i.size = 3 ∧ i.bytes = 24 := by
  have h := iV0
  cases hq : Tryz.prog.info? 44 with
  | none => rw [hq] at h; cases h
  | some i =>
    rw [hq] at h
    injection h with h
    injection h with h1 h2
    injection h2 with h2 h3
    exact ⟨i, rfl, h1, h2, h3⟩
theorem cellAt (w : World) (c : Array Value) (t : TypeId) (i : Nat) : (w.alloc (.cells c t)).cell? ⟨w.heap.size, i, none⟩ = c[i]? := by
  have h := (MapKept.heap_alloc w (.cells c t)).1
  simp only [World.cell?, h]
  rfl
theorem wpList_append_run {P : Program} {w : World} {ops : Array Oper} {rest : List Oper} {o : Oper} {a : Act} {Q : Exit → Act → World → Prop} (hgd : o.guard = none) (s x : Operand) (t : TypeId)
    (ho : o.op = .call { callee := .builtin .append, args := #[s, x], argTypes := #[t, t] }) (v src v' : Value) (w' : World) (hs : a.eval s = v) (hx : a.eval x = src)
    (hr : (Builtin.append_ #[t, t] o.type #[v, src]).run P w = .ok v' w') (h : wpList P ops Q rest (a.put o.dst v') w') : wpList P ops Q (o :: rest) a w :=
  wpList_plain hgd fun K hK => by
    unfold Oper.wp execOp
    simp only [ho, resolve, invoke, builtin, Sem.run_bind, Sem.run_pure, Result.andThen_ok, List.map_toArray, List.map_cons, List.map_nil, hs, hx, hr]
    exact hK _ _ h
/-- One value behind an empty list. -/
theorem app1 (W : World) (a : Nat) (v0 v1 : Int) (v2 : Bool) (c0 : W.cell? ⟨a, 0, none⟩ = some (.int .i64 v0)) (c1 : W.cell? ⟨a, 1, none⟩ = some (.int .i64 v1)) (c2 : W.cell? ⟨a, 2, none⟩ = some (.bool v2)) :
    ∃ (cap : Nat) (W' : World), (Builtin.append_ #[51, 51] 51 #[.slice none 0 0, .slice (some ⟨a, 0, none⟩) 1 1]).run Tryz.prog W = .ok (.slice (some ⟨W.heap.size, 0, none⟩) 1 cap) W' ∧
      W'.cell? ⟨W.heap.size, 0, none⟩ = some (.int .i64 v0) ∧ W'.cell? ⟨W.heap.size, 1, none⟩ = some (.int .i64 v1) ∧ W'.cell? ⟨W.heap.size, 2, none⟩ = some (.bool v2) ∧ Keeps (fun _ => False) W W' := by
  obtain ⟨i, hi, hz, h3, h24⟩ := iV
  have e := run_append_nil (P := Tryz.prog) (w := W) 51 51 44 i _ uV hi hz ⟨a, 0, none⟩ 1 1 [.int .i64 v0, .int .i64 v1, .bool v2] (by rw [h3]; rfl) (fun j v hj => by
      match j, hj with
      | 0, hj => cases hj; exact c0
      | 1, hj => cases hj; exact c1
      | 2, hj => cases hj; exact c2
      | (j + 3), hj => simp at hj) (by omega) (by omega) (by rw [h24]; omega)
  refine ⟨_, _, e, ?_, ?_, ?_, (Keeps.refl _ W).drew.alloc _⟩
  · exact (cellAt W.drew _ _ 0).trans (by rw [Array.getElem?_append_left (by simp)]; rfl)
  · exact (cellAt W.drew _ _ 1).trans (by rw [Array.getElem?_append_left (by simp)]; rfl)
  · exact (cellAt W.drew _ _ 2).trans (by rw [Array.getElem?_append_left (by simp)]; rfl)
set_option maxHeartbeats 400000 in
set_option maxRecDepth 1000000 in
theorem values1 {vb : Nat} {q : Int} (hv : w.cell? ⟨vb, 0, none⟩ = some (.int .i64 q)) : Calls Tryz.prog 17 #[.slice (some ⟨vb, 0, none⟩) 1 1] w fun e w' => ∃ b cap, e = .returned (.slice (some ⟨b, 0, none⟩) 1 cap) ∧ w.heap.size ≤ b ∧ w'.cell? ⟨b, 0, none⟩ = some (.int .i64 q) ∧ w'.cell? ⟨b, 1, none⟩ = some (.int .i64 0) ∧ w'.cell? ⟨b, 2, none⟩ = some (.bool false) ∧ Keeps (fun _ => False) w w' := by
  have hx := fun (h : _) => app1 (w.alloc (.cells #[.int .i64 q, .int .i64 0, .bool false] 44)) w.heap.size q 0 false (by simp) (by simp) h
  obtain ⟨cap, W', hrun, d0, d1, d2, kW⟩ := hx (by simp)
  have sz : (w.alloc (.cells #[.int .i64 q, .int .i64 0, .bool false] 44)).heap.size = w.heap.size + 1 := by simp
  rw [sz] at hrun d0 d1 d2
  go_enter Tryz.func17, Tryz.ntmps17
  clear hx sz
  have KW : Keeps (fun _ => False) w W' := ((Keeps.refl _ w).alloc _).trans kW
  clear kW
  go_wp2_with fail
  go_loopw [3, 4] (fun v iv W => (v = .slice none 0 0 ∧ iv = .int .i64 0 ∧ W = w) ∨ (v = .slice (some ⟨w.heap.size + 1, 0, none⟩) 1 cap ∧ iv = .int .i64 1 ∧ W = W')) (fun _ iv _ => 1 - (intOf iv).toNat)
  case atStart => exact .inl ⟨rfl, rfl, rfl⟩
  case round =>
    rcases hrel with ⟨rfl, rfl, rfl⟩ | ⟨rfl, rfl, rfl⟩
    · go_wp2_with (refine wpList_append_run rfl _ _ 51 rfl _ _ _ _ rfl rfl hrun ?_)
      go_roundw
      case rel => simp
      case measure => simp [intOf]
    · go_wp2_with fail
      go_ret
      exact ⟨w.heap.size + 1, cap, rfl, by omega, d0, d1, d2, KW⟩
end
end Go.Proofs.YteomlhcllmlkpaaGreatDoor
