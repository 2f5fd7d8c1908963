import Derived.Test.YthchbcfecconbaaGreatDoorG03
import Derived.Maps.AppendAt
import Derived.Deep.AppendSrc
import Derived.Deep.OwnRows
namespace Go.Proofs.YthchbcfecconbaaGreatDoor
open Go.RowKit Go.Deep Go.ChangeShapes Go.WideShapes Go.ChangeAt
attribute [local go_sem] Oper.semAt_some run_store_nf run_store_f
theorem add_at (b off n : Nat) : (⟨b, off, none⟩ : Addr).add n = ⟨b, off + n, none⟩ := by
  unfold Addr.add; split <;> simp_all
theorem oI : Tryz.prog.underlying 26 = some (.slice 69) := by kernel_rfl
theorem oI0 : (Tryz.prog.info? 69).map (fun i => (i.zero, i.size, i.bytes)) = some (some (.agg #[.int .i64 0, .int .i64 0, .bool false, .int .i64 0, .bool false, .int .i64 0, .bool false, .int .i64 0, .int .i64 0, .int .i64 0, .int .i64 0]), 11, 88) := by kernel_rfl
theorem oIi : ∃ i, Tryz.prog.info? 69 = some i ∧ i.zero = some (.agg #[.int .i64 0, .int .i64 0, .bool false, .int .i64 0, .bool false, .int .i64 0, .bool false, .int .i64 0, .int .i64 0, .int .i64 0, .int .i64 0]) ∧ i.size = 11 ∧ i.bytes = 88 := by
  have h := oI0
  cases hq : Tryz.prog.info? 69 with
  | none => rw [hq] at h; cases h
  | some i =>
    rw [hq] at h
    injection h with h
    injection h with h1 h2
    injection h2 with h2 h3
    exact ⟨i, rfl, h1, h2, h3⟩
def icl (l : List Ins) : List Value := l.flatMap Ins.cells
theorem append_more {W : World} {base k : Nat} {v : Value} {qs : List Ins} (hown : W.ownsRow base 69 11 v k (icl qs)) (hb : base ≤ W.heap.size) (hk : (k + 1) * 88 ≤ 140737488363520) (q : Ins) :
    ∃ v' w', (Builtin.append_ #[26, 26] 26 #[v, .slice (some ⟨W.heap.size, 0, none⟩) 1 1]).run Tryz.prog (W.alloc (.cells #[.int .i64 q.code, .int .i64 q.dst, .bool q.oR, .int .i64 q.oN, .bool q.xR, .int .i64 q.xN, .bool q.yR, .int .i64 q.yN, .int .i64 q.op, .int .i64 q.rel, .int .i64 q.to] 69)) = .ok v' w' ∧ w'.ownsRow base 69 11 v' (k + 1) (icl (qs ++ [q])) ∧ Keeps (fun i => v.ownBlock = some i) W w' := by
  obtain ⟨i0, hi0, hz0, hz1, hz2⟩ := oIi
  obtain ⟨v', w', hr, ho, hg⟩ := run_append_more (P := Tryz.prog) (w := W.alloc (.cells q.cells.toArray 69)) base 26 26 69 i0 _ 11 88 oI hi0 hz0 hz1 hz2 rfl (by decide) (by decide) (by decide) v k (icl qs) (((Keeps.refl (fun _ => False) W).alloc _).owns hown (fun _ _ e => e)) ⟨W.heap.size, 0, none⟩ 1 q.cells rfl (fun j u hu => by
      rw [add_at]
      have := (CL.made W q.cells 69).c j u hu
      simpa using this) (fun u hu => by
      have := all_oneCell_ins q
      simp [Ins.cells] at hu
      rcases hu with rfl | rfl | rfl | rfl | rfl | rfl | rfl | rfl | rfl | rfl | rfl <;> rfl) (by omega) (Nat.le_trans hb (by simp))
  refine ⟨v', w', hr, ?_, ((Keeps.refl _ W).alloc _).grown hg (fun i _ e => e)⟩
  unfold icl
  rw [List.flatMap_append]
  simpa [icl] using ho
theorem owns_base {w : World} {base : Nat} {e : TypeId} {size : Nat} {v : Value} {n : Nat} {xs : List Value} (h : w.ownsRow base e size v n xs) (k : Nat) (hk : v.ownBlock = some k) : base ≤ k := by
  rcases h.2 with ⟨rfl, _⟩ | ⟨g, cap, cur, rfl, hb, hg, rest⟩
  · cases hk
  · cases hk; exact hb
theorem results_cell1 {fn : Func} {p : Tmp} {ty : TypeId} (h : fn.results = #[.cell p ty]) (tmps : Array Value) (P : Program) (w : World) :
    (results fn tmps).run P w = ((asAddr (tmps.getD p undef)).run P w).andThen fun a w₁ => (loadVar ty a).run P w₁ := by
  simp only [results, h]
  simp [Sem.run_bind, Result.andThen]
theorem wp_append_run {P : Program} {w : World} {o : Oper} {a : Act} {K : Act → World → Prop} {Q : Exit → Act → World → Prop} (s x : Operand) (t : TypeId)
    (ho : o.op = .call { callee := .builtin .append, args := #[s, x], argTypes := #[t, t] }) (v src v' : Value) (w' : World) (hs : a.eval s = v) (hx : a.eval x = src)
    (hr : (Builtin.append_ #[t, t] o.type #[v, src]).run P w = .ok v' w') (h : K (a.put o.dst v') w') : Oper.wp P o a w K Q := by
  unfold Oper.wp execOp
  simp only [ho, resolve, invoke, builtin, Sem.run_bind, Sem.run_pure, Result.andThen_ok, List.map_toArray, List.map_cons, List.map_nil, hs, hx, hr]
  exact h
def OwB {W : World} {base : Nat} {e : TypeId} {size : Nat} {v : Value} {n : Nat} {xs : List Value} (_ : W.ownsRow base e size v n xs) (i : Nat) : Prop := v.ownBlock = some i
theorem turned_any (w : World) (r : Bool) (n : Int) : Calls Tryz.prog 21 #[.agg #[.bool r, .int .i64 n]] w fun e w' => e = .returned (.agg #[.bool r, .int .i64 n]) ∧ Keeps (fun _ => False) w w' := by
  go_enter Tryz.func21, Tryz.ntmps21
  go_wp2
  refine bodyPost_ret (v := .agg #[.bool r, .int .i64 n]) (by rw [results_cell1 rfl]; go_simp) rfl ⟨rfl, ?_⟩
  exact ((Keeps.refl _ w).alloc _).alloc _
set_option maxHeartbeats 500000 in
set_option maxRecDepth 1000000 in
theorem prog_more {w : World} {a : Option Addr} {cap : Nat} {l : List Ins} (hl : ISL w a l) (hlen : l.length * 88 ≤ 140737488363520) : Calls Tryz.prog 7 #[.slice a l.length cap] w fun e w' => ∃ v, e = .returned v ∧ w'.ownsRow w.heap.size 69 11 v l.length (icl l) ∧ Keeps (fun _ => False) w w' := by
  generalize hN : l.length = N at *
  go_enter Tryz.func7, Tryz.ntmps7
  go_wp2_with fail
  go_loopw [3, 4] (fun v iv W => ∃ k : Nat, k ≤ N ∧ iv = .int .i64 (k : Int) ∧ W.ownsRow w.heap.size 69 11 v k (icl (l.take k)) ∧ Keeps (fun _ => False) w W) (fun _ iv _ => N - (intOf iv).toNat)
  case atStart => exact ⟨0, Nat.zero_le _, rfl, World.ownsRow_nil _ _ _ _, Keeps.refl _ w⟩
  case round =>
    obtain ⟨k, hk, rfl, hown, kW⟩ := hrel
    by_cases hlt : k < N
    · have hltI : decide ((k : Int) < (N : Int)) = true := by simp; omega
      have hltJ : (k : Int) < (N : Int) := by omega
      obtain ⟨b, off, rfl, hc⟩ := hl k (by omega)
      have hc' : ∀ j v, (l.getD k ins0).cells[j]? = some v → wr.cell? ⟨b, off + k * 11 + j, none⟩ = some v := fun j v e => kW.cell (hc j v e) (fun e => e)
      have hR1 := run_insAt (t := 62) hc' ⟨_, Tryz.underlying62⟩ iRn
      have HTk : Hid (l.take (k + 1) = l.take k ++ [l.getD k ins0]) := by
        show _ = _
        rw [List.take_add_one, List.getD_eq_getElem?_getD, List.getElem?_eq_getElem (by omega)]; rfl
      clear hc hc'
      generalize l.getD k ins0 = q at *
      obtain ⟨cd, dst, oR, oN, xR, xN, yR, yN, op, rel, to⟩ := q
      obtain ⟨W4, hW4⟩ : ∃ W4, W4 = wr.alloc (.cells #[.int .i64 0, .int .i64 0, .bool false, .int .i64 0, .bool false, .int .i64 0, .bool false, .int .i64 0, .int .i64 0, .int .i64 0, .int .i64 0] 62) := ⟨_, rfl⟩
      have k4 : Keeps (fun _ => False) wr W4 := by rw [hW4]; exact (Keeps.refl _ wr).alloc _
      have hU4 : CL W4 wr.heap.size ins0.cells := by rw [hW4]; exact CL.made wr ins0.cells _
      have hA := all_oneCell_ins ⟨cd, dst, oR, oN, xR, xN, yR, yN, op, rel, to⟩
      go_wp2_with (first | (refine wpList_load_run rfl 62 _ rfl ⟨b, off + k * 11, none⟩ rfl _ hR1 ?_; clear hR1) | (rw [← hW4]; clear hW4; refine wpList_store_cl rfl 62 _ _ rfl wr.heap.size 0 11 _ rfl rfl rfl hU4 (by show 11 ≤ 11; decide) iRn hA ?_; intro w5 hc5 k5 hsz5; clear hsz5))
      have hI5 : CL w5 wr.heap.size (⟨cd, dst, oR, oN, xR, xN, yR, yN, op, rel, to⟩ : Ins).cells := hc5
      have K45 : Keeps (fun _ => False) wr w5 := k4.trans' k5 (fun _ _ e => e) (fun i hi e => by have e : i = wr.heap.size := e; omega)
      have hnb : ¬ OwB hown wr.heap.size := fun e => by have := owns_lt' hown _ e; omega
      have c0 := hI5.c 0 _ rfl
      have c1 := hI5.c 1 _ rfl
      have c2 := hI5.c 2 _ rfl
      have c3 := hI5.c 3 _ rfl
      have c4 := hI5.c 4 _ rfl
      have c5 := hI5.c 5 _ rfl
      have c6 := hI5.c 6 _ rfl
      have c7 := hI5.c 7 _ rfl
      have c8 := hI5.c 8 _ rfl
      have c9 := hI5.c 9 _ rfl
      have c10 := hI5.c 10 _ rfl
      have hown5 := K45.owns hown (fun _ _ e => e)
      refine wp_region_held_drew (S := fun w' => Keeps (fun i => OwB hown i) w5 w') (by kernel_rfl) (Keeps.refl _ w5).drew (fun hHeld => ?_)
      refine wpAnyH_take (i := 0) (v := ?_) rfl (by kernel_rfl) (by kernel_rfl) (by kernel_rfl) (fun _ _ _ h => h) (Or.inl ⟨by rfl, ?_⟩) (by assumption) ?_
      rotate_left
      · intro wx hSw; have p0 := hSw.cell c0 hnb; have p1 := hSw.cell c1 hnb; have p2 := hSw.cell c2 hnb; have p3 := hSw.cell c3 hnb; have p4 := hSw.cell c4 hnb; have p5 := hSw.cell c5 hnb; have p6 := hSw.cell c6 hnb; have p7 := hSw.cell c7 hnb; have p8 := hSw.cell c8 hnb; have p9 := hSw.cell c9 hnb; have p10 := hSw.cell c10 hnb; clear hSw; go_simp <;> with_reducible rfl
      (try simp only [List.getElem_toArray]); (try simp only [List.getElem_cons_succ]); (try simp only [List.getElem_cons_zero]); (try simp only [Act.put]); (try simp only [List.setIfInBounds_toArray]); (repeat first | simp only [List.set_cons_succ] | simp only [List.set_cons_zero])
      refine wpAnyH_take (i := 1) (v := ?_) rfl (by kernel_rfl) (by kernel_rfl) (by kernel_rfl) (fun _ _ _ h => h) (Or.inl ⟨by rfl, ?_⟩) (by assumption) ?_
      rotate_left
      · intro wx hSw; have p0 := hSw.cell c0 hnb; have p1 := hSw.cell c1 hnb; have p2 := hSw.cell c2 hnb; have p3 := hSw.cell c3 hnb; have p4 := hSw.cell c4 hnb; have p5 := hSw.cell c5 hnb; have p6 := hSw.cell c6 hnb; have p7 := hSw.cell c7 hnb; have p8 := hSw.cell c8 hnb; have p9 := hSw.cell c9 hnb; have p10 := hSw.cell c10 hnb; clear hSw; go_simp <;> with_reducible rfl
      (try simp only [List.getElem_toArray]); (try simp only [List.getElem_cons_succ]); (try simp only [List.getElem_cons_zero]); (try simp only [Act.put]); (try simp only [List.setIfInBounds_toArray]); (repeat first | simp only [List.set_cons_succ] | simp only [List.set_cons_zero])
      refine wpAnyH_take (i := 2) (v := ?_) rfl (by kernel_rfl) (by kernel_rfl) (by kernel_rfl) (fun _ _ _ h => h) (Or.inl ⟨by rfl, ?_⟩) (by assumption) ?_
      rotate_left
      · intro wx hSw; have p0 := hSw.cell c0 hnb; have p1 := hSw.cell c1 hnb; have p2 := hSw.cell c2 hnb; have p3 := hSw.cell c3 hnb; have p4 := hSw.cell c4 hnb; have p5 := hSw.cell c5 hnb; have p6 := hSw.cell c6 hnb; have p7 := hSw.cell c7 hnb; have p8 := hSw.cell c8 hnb; have p9 := hSw.cell c9 hnb; have p10 := hSw.cell c10 hnb; clear hSw; go_simp <;> with_reducible rfl
      (try simp only [List.getElem_toArray]); (try simp only [List.getElem_cons_succ]); (try simp only [List.getElem_cons_zero]); (try simp only [Act.put]); (try simp only [List.setIfInBounds_toArray]); (repeat first | simp only [List.set_cons_succ] | simp only [List.set_cons_zero])
      refine wpAnyH_take (i := 3) (v := ?_) rfl (by kernel_rfl) (by kernel_rfl) (by kernel_rfl) (fun _ _ _ h => h) (Or.inl ⟨by rfl, ?_⟩) (by assumption) ?_
      rotate_left
      · intro wx hSw; have p0 := hSw.cell c0 hnb; have p1 := hSw.cell c1 hnb; have p2 := hSw.cell c2 hnb; have p3 := hSw.cell c3 hnb; have p4 := hSw.cell c4 hnb; have p5 := hSw.cell c5 hnb; have p6 := hSw.cell c6 hnb; have p7 := hSw.cell c7 hnb; have p8 := hSw.cell c8 hnb; have p9 := hSw.cell c9 hnb; have p10 := hSw.cell c10 hnb; clear hSw; go_simp <;> with_reducible rfl
      (try simp only [List.getElem_toArray]); (try simp only [List.getElem_cons_succ]); (try simp only [List.getElem_cons_zero]); (try simp only [Act.put]); (try simp only [List.setIfInBounds_toArray]); (repeat first | simp only [List.set_cons_succ] | simp only [List.set_cons_zero])
      refine wpAnyH_take (i := 4) (v := ?_) rfl (by kernel_rfl) (by kernel_rfl) (by kernel_rfl) (fun _ _ _ h => h) (Or.inl ⟨by rfl, ?_⟩) (by assumption) ?_
      rotate_left
      · intro wx hSw; have p0 := hSw.cell c0 hnb; have p1 := hSw.cell c1 hnb; have p2 := hSw.cell c2 hnb; have p3 := hSw.cell c3 hnb; have p4 := hSw.cell c4 hnb; have p5 := hSw.cell c5 hnb; have p6 := hSw.cell c6 hnb; have p7 := hSw.cell c7 hnb; have p8 := hSw.cell c8 hnb; have p9 := hSw.cell c9 hnb; have p10 := hSw.cell c10 hnb; clear hSw; go_simp <;> with_reducible rfl
      (try simp only [List.getElem_toArray]); (try simp only [List.getElem_cons_succ]); (try simp only [List.getElem_cons_zero]); (try simp only [Act.put]); (try simp only [List.setIfInBounds_toArray]); (repeat first | simp only [List.set_cons_succ] | simp only [List.set_cons_zero])
      refine wpAnyH_take (i := 5) (v := ?_) rfl (by kernel_rfl) (by kernel_rfl) (by kernel_rfl) (fun _ _ _ h => h) (Or.inl ⟨by rfl, ?_⟩) (by assumption) ?_
      rotate_left
      · intro wx hSw; have p0 := hSw.cell c0 hnb; have p1 := hSw.cell c1 hnb; have p2 := hSw.cell c2 hnb; have p3 := hSw.cell c3 hnb; have p4 := hSw.cell c4 hnb; have p5 := hSw.cell c5 hnb; have p6 := hSw.cell c6 hnb; have p7 := hSw.cell c7 hnb; have p8 := hSw.cell c8 hnb; have p9 := hSw.cell c9 hnb; have p10 := hSw.cell c10 hnb; clear hSw; go_simp <;> with_reducible rfl
      (try simp only [List.getElem_toArray]); (try simp only [List.getElem_cons_succ]); (try simp only [List.getElem_cons_zero]); (try simp only [Act.put]); (try simp only [List.setIfInBounds_toArray]); (repeat first | simp only [List.set_cons_succ] | simp only [List.set_cons_zero])
      refine wpAnyH_take (i := 6) (v := ?_) rfl (by kernel_rfl) (by kernel_rfl) (by kernel_rfl) (fun _ _ _ h => h) (Or.inl ⟨by rfl, ?_⟩) (by assumption) ?_
      rotate_left
      · intro wx hSw; have p0 := hSw.cell c0 hnb; have p1 := hSw.cell c1 hnb; have p2 := hSw.cell c2 hnb; have p3 := hSw.cell c3 hnb; have p4 := hSw.cell c4 hnb; have p5 := hSw.cell c5 hnb; have p6 := hSw.cell c6 hnb; have p7 := hSw.cell c7 hnb; have p8 := hSw.cell c8 hnb; have p9 := hSw.cell c9 hnb; have p10 := hSw.cell c10 hnb; clear hSw; go_simp <;> with_reducible rfl
      (try simp only [List.getElem_toArray]); (try simp only [List.getElem_cons_succ]); (try simp only [List.getElem_cons_zero]); (try simp only [Act.put]); (try simp only [List.setIfInBounds_toArray]); (repeat first | simp only [List.set_cons_succ] | simp only [List.set_cons_zero])
      refine wpAnyH_take (i := 8) (v := ?_) rfl (by kernel_rfl) (by kernel_rfl) (by kernel_rfl) (fun _ _ _ h => h) (Or.inl ⟨by rfl, ?_⟩) (by assumption) ?_
      rotate_left
      · intro wx hSw; have p0 := hSw.cell c0 hnb; have p1 := hSw.cell c1 hnb; have p2 := hSw.cell c2 hnb; have p3 := hSw.cell c3 hnb; have p4 := hSw.cell c4 hnb; have p5 := hSw.cell c5 hnb; have p6 := hSw.cell c6 hnb; have p7 := hSw.cell c7 hnb; have p8 := hSw.cell c8 hnb; have p9 := hSw.cell c9 hnb; have p10 := hSw.cell c10 hnb; clear hSw; go_simp <;> with_reducible rfl
      (try simp only [List.getElem_toArray]); (try simp only [List.getElem_cons_succ]); (try simp only [List.getElem_cons_zero]); (try simp only [Act.put]); (try simp only [List.setIfInBounds_toArray]); (repeat first | simp only [List.set_cons_succ] | simp only [List.set_cons_zero])
      refine wpAnyH_take (i := 9) (v := ?_) rfl (by kernel_rfl) (by kernel_rfl) (by kernel_rfl) (fun _ _ _ h => h) (Or.inl ⟨by rfl, ?_⟩) (by assumption) ?_
      rotate_left
      · intro wx hSw; have p0 := hSw.cell c0 hnb; have p1 := hSw.cell c1 hnb; have p2 := hSw.cell c2 hnb; have p3 := hSw.cell c3 hnb; have p4 := hSw.cell c4 hnb; have p5 := hSw.cell c5 hnb; have p6 := hSw.cell c6 hnb; have p7 := hSw.cell c7 hnb; have p8 := hSw.cell c8 hnb; have p9 := hSw.cell c9 hnb; have p10 := hSw.cell c10 hnb; clear hSw; go_simp <;> with_reducible rfl
      (try simp only [List.getElem_toArray]); (try simp only [List.getElem_cons_succ]); (try simp only [List.getElem_cons_zero]); (try simp only [Act.put]); (try simp only [List.setIfInBounds_toArray]); (repeat first | simp only [List.set_cons_succ] | simp only [List.set_cons_zero])
      refine wpAnyH_take (i := 11) (v := ?_) rfl (by kernel_rfl) (by kernel_rfl) (by kernel_rfl) (fun _ _ _ h => h) (Or.inl ⟨by rfl, ?_⟩) (by assumption) ?_
      rotate_left
      · intro wx hSw; have p0 := hSw.cell c0 hnb; have p1 := hSw.cell c1 hnb; have p2 := hSw.cell c2 hnb; have p3 := hSw.cell c3 hnb; have p4 := hSw.cell c4 hnb; have p5 := hSw.cell c5 hnb; have p6 := hSw.cell c6 hnb; have p7 := hSw.cell c7 hnb; have p8 := hSw.cell c8 hnb; have p9 := hSw.cell c9 hnb; have p10 := hSw.cell c10 hnb; clear hSw; go_simp <;> with_reducible rfl
      (try simp only [List.getElem_toArray]); (try simp only [List.getElem_cons_succ]); (try simp only [List.getElem_cons_zero]); (try simp only [Act.put]); (try simp only [List.setIfInBounds_toArray]); (repeat first | simp only [List.set_cons_succ] | simp only [List.set_cons_zero])
      refine wpAnyH_take (i := 12) (v := ?_) rfl (by kernel_rfl) (by kernel_rfl) (by kernel_rfl) (fun _ _ _ h => h) (Or.inl ⟨by rfl, ?_⟩) (by assumption) ?_
      rotate_left
      · intro wx hSw; have p0 := hSw.cell c0 hnb; have p1 := hSw.cell c1 hnb; have p2 := hSw.cell c2 hnb; have p3 := hSw.cell c3 hnb; have p4 := hSw.cell c4 hnb; have p5 := hSw.cell c5 hnb; have p6 := hSw.cell c6 hnb; have p7 := hSw.cell c7 hnb; have p8 := hSw.cell c8 hnb; have p9 := hSw.cell c9 hnb; have p10 := hSw.cell c10 hnb; clear hSw; go_simp <;> with_reducible rfl
      (try simp only [List.getElem_toArray]); (try simp only [List.getElem_cons_succ]); (try simp only [List.getElem_cons_zero]); (try simp only [Act.put]); (try simp only [List.setIfInBounds_toArray]); (repeat first | simp only [List.set_cons_succ] | simp only [List.set_cons_zero])
      refine wpAnyH_take (i := 14) (v := ?_) rfl (by kernel_rfl) (by kernel_rfl) (by kernel_rfl) (fun _ _ _ h => h) (Or.inl ⟨by rfl, ?_⟩) (by assumption) ?_
      rotate_left
      · intro wx hSw; have p0 := hSw.cell c0 hnb; have p1 := hSw.cell c1 hnb; have p2 := hSw.cell c2 hnb; have p3 := hSw.cell c3 hnb; have p4 := hSw.cell c4 hnb; have p5 := hSw.cell c5 hnb; have p6 := hSw.cell c6 hnb; have p7 := hSw.cell c7 hnb; have p8 := hSw.cell c8 hnb; have p9 := hSw.cell c9 hnb; have p10 := hSw.cell c10 hnb; clear hSw; go_simp <;> with_reducible rfl
      (try simp only [List.getElem_toArray]); (try simp only [List.getElem_cons_succ]); (try simp only [List.getElem_cons_zero]); (try simp only [Act.put]); (try simp only [List.setIfInBounds_toArray]); (repeat first | simp only [List.set_cons_succ] | simp only [List.set_cons_zero])
      refine wpAnyH_take (i := 15) (v := ?_) rfl (by kernel_rfl) (by kernel_rfl) (by kernel_rfl) (fun _ _ _ h => h) (Or.inl ⟨by rfl, ?_⟩) (by assumption) ?_
      rotate_left
      · intro wx hSw; have p0 := hSw.cell c0 hnb; have p1 := hSw.cell c1 hnb; have p2 := hSw.cell c2 hnb; have p3 := hSw.cell c3 hnb; have p4 := hSw.cell c4 hnb; have p5 := hSw.cell c5 hnb; have p6 := hSw.cell c6 hnb; have p7 := hSw.cell c7 hnb; have p8 := hSw.cell c8 hnb; have p9 := hSw.cell c9 hnb; have p10 := hSw.cell c10 hnb; clear hSw; go_simp <;> with_reducible rfl
      (try simp only [List.getElem_toArray]); (try simp only [List.getElem_cons_succ]); (try simp only [List.getElem_cons_zero]); (try simp only [Act.put]); (try simp only [List.setIfInBounds_toArray]); (repeat first | simp only [List.set_cons_succ] | simp only [List.set_cons_zero])
      refine wpAnyH_take (i := 16) (v := ?_) rfl (by kernel_rfl) (by kernel_rfl) (by kernel_rfl) (fun _ _ _ h => h) (Or.inl ⟨by rfl, ?_⟩) (by assumption) ?_
      rotate_left
      · intro wx hSw; have p0 := hSw.cell c0 hnb; have p1 := hSw.cell c1 hnb; have p2 := hSw.cell c2 hnb; have p3 := hSw.cell c3 hnb; have p4 := hSw.cell c4 hnb; have p5 := hSw.cell c5 hnb; have p6 := hSw.cell c6 hnb; have p7 := hSw.cell c7 hnb; have p8 := hSw.cell c8 hnb; have p9 := hSw.cell c9 hnb; have p10 := hSw.cell c10 hnb; clear hSw; go_simp <;> with_reducible rfl
      (try simp only [List.getElem_toArray]); (try simp only [List.getElem_cons_succ]); (try simp only [List.getElem_cons_zero]); (try simp only [Act.put]); (try simp only [List.setIfInBounds_toArray]); (repeat first | simp only [List.set_cons_succ] | simp only [List.set_cons_zero])
      refine wpAnyH_take (i := 17) (v := ?_) rfl (by kernel_rfl) (by kernel_rfl) (by kernel_rfl) (fun _ _ _ h => h) (Or.inl ⟨by rfl, ?_⟩) (by assumption) ?_
      rotate_left
      · intro wx hSw; have p0 := hSw.cell c0 hnb; have p1 := hSw.cell c1 hnb; have p2 := hSw.cell c2 hnb; have p3 := hSw.cell c3 hnb; have p4 := hSw.cell c4 hnb; have p5 := hSw.cell c5 hnb; have p6 := hSw.cell c6 hnb; have p7 := hSw.cell c7 hnb; have p8 := hSw.cell c8 hnb; have p9 := hSw.cell c9 hnb; have p10 := hSw.cell c10 hnb; clear hSw; go_simp <;> with_reducible rfl
      (try simp only [List.getElem_toArray]); (try simp only [List.getElem_cons_succ]); (try simp only [List.getElem_cons_zero]); (try simp only [Act.put]); (try simp only [List.setIfInBounds_toArray]); (repeat first | simp only [List.set_cons_succ] | simp only [List.set_cons_zero])
      refine wpAnyH_take (i := 18) (v := ?_) rfl (by kernel_rfl) (by kernel_rfl) (by kernel_rfl) (fun _ _ _ h => h) (Or.inl ⟨by rfl, ?_⟩) (by assumption) ?_
      rotate_left
      · intro wx hSw; have p0 := hSw.cell c0 hnb; have p1 := hSw.cell c1 hnb; have p2 := hSw.cell c2 hnb; have p3 := hSw.cell c3 hnb; have p4 := hSw.cell c4 hnb; have p5 := hSw.cell c5 hnb; have p6 := hSw.cell c6 hnb; have p7 := hSw.cell c7 hnb; have p8 := hSw.cell c8 hnb; have p9 := hSw.cell c9 hnb; have p10 := hSw.cell c10 hnb; clear hSw; go_simp <;> with_reducible rfl
      (try simp only [List.getElem_toArray]); (try simp only [List.getElem_cons_succ]); (try simp only [List.getElem_cons_zero]); (try simp only [Act.put]); (try simp only [List.setIfInBounds_toArray]); (repeat first | simp only [List.set_cons_succ] | simp only [List.set_cons_zero])
      refine wpAnyH_take (i := 19) (v := ?_) rfl (by kernel_rfl) (by kernel_rfl) (by kernel_rfl) (fun _ _ _ h => h) (Or.inl ⟨by rfl, ?_⟩) (by assumption) ?_
      rotate_left
      · intro wx hSw; have p0 := hSw.cell c0 hnb; have p1 := hSw.cell c1 hnb; have p2 := hSw.cell c2 hnb; have p3 := hSw.cell c3 hnb; have p4 := hSw.cell c4 hnb; have p5 := hSw.cell c5 hnb; have p6 := hSw.cell c6 hnb; have p7 := hSw.cell c7 hnb; have p8 := hSw.cell c8 hnb; have p9 := hSw.cell c9 hnb; have p10 := hSw.cell c10 hnb; clear hSw; go_simp <;> with_reducible rfl
      (try simp only [List.getElem_toArray]); (try simp only [List.getElem_cons_succ]); (try simp only [List.getElem_cons_zero]); (try simp only [Act.put]); (try simp only [List.setIfInBounds_toArray]); (repeat first | simp only [List.set_cons_succ] | simp only [List.set_cons_zero])
      refine wpAnyH_one 7 (by kernel_rfl) rfl rfl ?_
      go_simp
      refine (turned_any _ oR oN).mono ?_
      rintro e V1 ⟨rfl, kv1⟩
      refine ⟨hHeld.trans (kv1.mono (fun _ _ e => e.elim)), fun hS1 => ?_⟩
      (try simp only [List.getElem_toArray]); (try simp only [List.getElem_cons_succ]); (try simp only [List.getElem_cons_zero]); (try simp only [Act.put]); (try simp only [List.setIfInBounds_toArray]); (repeat first | simp only [List.set_cons_succ] | simp only [List.set_cons_zero])
      refine wpAnyH_one 10 (by kernel_rfl) rfl rfl ?_
      go_simp
      refine (turned_any _ xR xN).mono ?_
      rintro e V2 ⟨rfl, kv2⟩
      refine ⟨hS1.trans (kv2.mono (fun _ _ e => e.elim)), fun hS2 => ?_⟩
      (try simp only [List.getElem_toArray]); (try simp only [List.getElem_cons_succ]); (try simp only [List.getElem_cons_zero]); (try simp only [Act.put]); (try simp only [List.setIfInBounds_toArray]); (repeat first | simp only [List.set_cons_succ] | simp only [List.set_cons_zero])
      refine wpAnyH_one 13 (by kernel_rfl) rfl rfl ?_
      go_simp
      refine (turned_any _ yR yN).mono ?_
      rintro e V3 ⟨rfl, kv3⟩
      refine ⟨hS2.trans (kv3.mono (fun _ _ e => e.elim)), fun hS3 => ?_⟩
      (try simp only [List.getElem_toArray]); (try simp only [List.getElem_cons_succ]); (try simp only [List.getElem_cons_zero]); (try simp only [Act.put]); (try simp only [List.setIfInBounds_toArray]); (repeat first | simp only [List.set_cons_succ] | simp only [List.set_cons_zero])
      refine wpAnyH_take (i := 20) (v := ?_) rfl (by kernel_rfl) (by kernel_rfl) (by kernel_rfl) (fun _ _ _ h => h) (Or.inl ⟨by rfl, ?_⟩) (by assumption) ?_
      rotate_left
      · intro wx hSw; have p0 := hSw.cell c0 hnb; have p1 := hSw.cell c1 hnb; have p2 := hSw.cell c2 hnb; have p3 := hSw.cell c3 hnb; have p4 := hSw.cell c4 hnb; have p5 := hSw.cell c5 hnb; have p6 := hSw.cell c6 hnb; have p7 := hSw.cell c7 hnb; have p8 := hSw.cell c8 hnb; have p9 := hSw.cell c9 hnb; have p10 := hSw.cell c10 hnb; clear hSw; go_simp <;> with_reducible rfl
      (try simp only [List.getElem_toArray]); (try simp only [List.getElem_cons_succ]); (try simp only [List.getElem_cons_zero]); (try simp only [Act.put]); (try simp only [List.setIfInBounds_toArray]); (repeat first | simp only [List.set_cons_succ] | simp only [List.set_cons_zero])
      have K3 : Keeps (fun _ => False) w5 V3 := (((Keeps.refl (fun _ => False) w5).drew.trans kv1).trans kv2).trans kv3
      have hown3 := K3.owns hown5 (fun _ _ e => e)
      obtain ⟨v', w', hr, ho, kk⟩ := append_more hown3 ((kW.trans K45).trans K3).size (by omega) ⟨cd, dst, oR, oN, xR, xN, yR, yN, op, rel, to⟩
      have HO : Hid (_) := ho
      have HK : Hid (Keeps (fun _ => False) w w') := ((kW.trans K45).trans K3).trans' kk (fun _ _ e => e) (fun i hi e => by have := owns_base hown i e; omega)
      have hSw' : Keeps (fun i => OwB hown i) w5 w' := (K3.mono (fun _ _ e => e.elim)).trans kk
      simp only at hr
      clear ho kk hown3
      refine wpAnyH_one 21 (by kernel_rfl) rfl rfl ?_
      go_simp
      refine ⟨hS3.alloc _, fun hS4 => ?_⟩
      (try simp only [List.getElem_toArray]); (try simp only [List.getElem_cons_succ]); (try simp only [List.getElem_cons_zero]); (try simp only [Act.put]); (try simp only [List.setIfInBounds_toArray]); (repeat first | simp only [List.set_cons_succ] | simp only [List.set_cons_zero])
      refine wpAnyH_one 22 (by kernel_rfl) rfl rfl ?_
      refine wp_append_run _ _ 26 rfl _ _ _ _ rfl rfl hr ?_
      refine ⟨hSw', fun hS5 => ?_⟩
      (try simp only [List.getElem_toArray]); (try simp only [List.getElem_cons_succ]); (try simp only [List.getElem_cons_zero]); (try simp only [Act.put]); (try simp only [List.setIfInBounds_toArray]); (repeat first | simp only [List.set_cons_succ] | simp only [List.set_cons_zero])
      refine wpAnyH_take (i := 23) (v := ?_) rfl (by kernel_rfl) (by kernel_rfl) (by kernel_rfl) (fun _ _ _ h => h) (Or.inl ⟨by rfl, ?_⟩) (by assumption) ?_
      rotate_left
      · intro wx hSw; have p0 := hSw.cell c0 hnb; have p1 := hSw.cell c1 hnb; have p2 := hSw.cell c2 hnb; have p3 := hSw.cell c3 hnb; have p4 := hSw.cell c4 hnb; have p5 := hSw.cell c5 hnb; have p6 := hSw.cell c6 hnb; have p7 := hSw.cell c7 hnb; have p8 := hSw.cell c8 hnb; have p9 := hSw.cell c9 hnb; have p10 := hSw.cell c10 hnb; clear hSw; go_simp <;> with_reducible rfl
      (try simp only [List.getElem_toArray]); (try simp only [List.getElem_cons_succ]); (try simp only [List.getElem_cons_zero]); (try simp only [Act.put]); (try simp only [List.setIfInBounds_toArray]); (repeat first | simp only [List.set_cons_succ] | simp only [List.set_cons_zero])
      refine wpAnyH_done (by kernel_rfl) ?_ _
      go_wp2_with fail
      go_roundw
      case rel => exact ⟨k + 1, by omega, by go_num, by rw [HTk.out]; exact HO.out, HK.out⟩
      case measure => simp [intOf]; omega
    · obtain rfl : k = N := by omega
      have hltI : decide ((k : Int) < (k : Int)) = false := by simp
      have eT : l.take k = l := by rw [← hN]; exact List.take_length
      rw [eT] at hown
      go_wp2_with fail
      go_ret
      exact ⟨_, rfl, hown, kW⟩
theorem prog_any {w : World} {a : Option Addr} {cap : Nat} {l : List Ins} (hl : ISL w a l) (hlen : l.length * 88 ≤ 140737488355328) : Calls Tryz.prog 7 #[.slice a l.length cap] w fun e w' => ∃ v, e = .returned v ∧ w'.ownsRow w.heap.size 69 11 v l.length (icl l) ∧ Keeps (fun _ => False) w w' :=
  prog_more hl (by omega)
end Go.Proofs.YthchbcfecconbaaGreatDoor

namespace Go.Proofs.YthchbcfecconbaaGreatDoor
open Go.RowKit
attribute [local go_sem] Oper.semAt_some run_store_nf run_store_f
theorem ins_len (q : Ins) : q.cells.length = 11 := rfl
theorem icl_get : ∀ (l : List Ins) (i j : Nat) (v : Value), i < l.length → (l.getD i ins0).cells[j]? = some v → (icl l)[i * 11 + j]? = some v
  | [], _, _, _, h, _ => by simp at h
  | q :: l, 0, j, v, _, hv => by
    have hv : q.cells[j]? = some v := hv
    have hj : j < q.cells.length := (List.getElem?_eq_some_iff.1 hv).1
    show (q.cells ++ l.flatMap Ins.cells)[0 * 11 + j]? = some v
    rw [Nat.zero_mul, Nat.zero_add, List.getElem?_append_left hj]; exact hv
  | q :: l, i + 1, j, v, h, hv => by
    have hv : (l.getD i ins0).cells[j]? = some v := hv
    have h' : i < l.length := by simpa using h
    show (q.cells ++ l.flatMap Ins.cells)[(i + 1) * 11 + j]? = some v
    rw [List.getElem?_append_right (by rw [ins_len]; omega), ins_len, show (i + 1) * 11 + j - 11 = i * 11 + j by omega]
    exact icl_get l i j v h' hv
theorem isl_of_owns {W : World} {base n : Nat} {v : Value} {l : List Ins} (h : W.ownsRow base 69 11 v n (icl l)) (hn : l.length = n) : ∃ a cap, v = .slice a n cap ∧ ISL W a l := by
  rcases h.2 with ⟨rfl, h0⟩ | ⟨g, cap, cur, rfl, _⟩
  · have hz : n = 0 := by first | exact h0.1 | omega
    subst hz
    exact ⟨none, 0, rfl, fun i hi => by omega⟩
  · refine ⟨_, cap, rfl, fun i hi => ⟨g, 0, rfl, fun j v hv => ?_⟩⟩
    have e := icl_get l i j v hi hv
    have hc := h.cells (g := g) rfl (i * 11 + j) v e
    rw [add_at] at hc
    rw [Nat.zero_add] at hc ⊢
    exact hc
end Go.Proofs.YthchbcfecconbaaGreatDoor

namespace Go.Proofs.YthchbcfecconbaaGreatDoor
open Go.RowKit
def pclD (l : List Pr) : List Value := l.flatMap fun p => [.int .i64 p.1, .int .i64 p.2]
def PRL (w : World) (a : Option Addr) (l : List Pr) : Prop := ∀ i p, l[i]? = some p → ∃ b off, a = some ⟨b, off, none⟩ ∧ w.cell? ⟨b, off + i * 2, none⟩ = some (.int .i64 p.1) ∧ w.cell? ⟨b, off + i * 2 + 1, none⟩ = some (.int .i64 p.2)
theorem PRL.keep {w w' : World} {a : Option Addr} {l : List Pr} {S : Nat → Prop} (h : PRL w a l) (k : Keeps S w w') (hS : ∀ b off, a = some ⟨b, off, none⟩ → ¬ S b) : PRL w' a l := fun i p hp => by
  obtain ⟨b, off, e, h1, h2⟩ := h i p hp
  exact ⟨b, off, e, k.cell h1 (hS b off e), k.cell h2 (hS b off e)⟩
theorem pclD_len : ∀ l : List Pr, (pclD l).length = l.length * 2
  | [] => rfl
  | p :: l => by
    show ([Value.int .i64 p.1, Value.int .i64 p.2] ++ pclD l).length = (l.length + 1) * 2
    rw [List.length_append, pclD_len l]
    show 2 + l.length * 2 = _
    omega
theorem pclD_get : ∀ (l : List Pr) (i : Nat) (p : Pr), l[i]? = some p → (pclD l)[i * 2]? = some (.int .i64 p.1) ∧ (pclD l)[i * 2 + 1]? = some (.int .i64 p.2)
  | [], _, _, h => by simp at h
  | q :: l, 0, p, h => by
    have h : some q = some p := h
    injection h with h
    subst h
    exact ⟨rfl, rfl⟩
  | q :: l, i + 1, p, h => by
    have h : l[i]? = some p := h
    obtain ⟨h1, h2⟩ := pclD_get l i p h
    rw [show (i + 1) * 2 = i * 2 + 1 + 1 by omega, show i * 2 + 1 + 1 + 1 = i * 2 + 1 + 1 + 1 by rfl]
    exact ⟨h1, h2⟩
theorem pclD_app (l m : List Pr) : pclD (l ++ m) = pclD l ++ pclD m := by unfold pclD; rw [List.flatMap_append]
theorem prl_of_owns {W : World} {base n : Nat} {v : Value} {l : List Pr} (h : W.ownsRow base 108 2 v n (pclD l)) : ∃ a cap, v = .slice a n cap ∧ PRL W a l ∧ (∀ b off, a = some ⟨b, off, none⟩ → v.ownBlock = some b) := by
  have hln := h.1
  rcases h.2 with ⟨rfl, h0⟩ | ⟨g, cap, cur, rfl, _⟩
  · have hz : n = 0 := by first | exact h0.1 | omega
    subst hz
    have hl : l = [] := by
      rw [pclD_len] at hln
      exact List.eq_nil_of_length_eq_zero (by omega)
    subst hl
    exact ⟨none, 0, rfl, fun i p hp => by simp at hp, fun b off e => by cases e⟩
  · refine ⟨_, cap, rfl, fun i p hp => ⟨g, 0, rfl, ?_, ?_⟩, fun b off e => by injection e with e; injection e with e1 _ _; rw [← e1]; rfl⟩
    · have hc := h.cells (g := g) rfl (i * 2) _ (pclD_get l i p hp).1
      rw [add_at] at hc
      exact hc
    · have hc := h.cells (g := g) rfl (i * 2 + 1) _ (pclD_get l i p hp).2
      rw [add_at] at hc
      rw [Nat.add_assoc]
      exact hc
theorem uPairs : Tryz.prog.underlying 76 = some (.slice 108) := by kernel_rfl
theorem iPairs : ∃ i, Tryz.prog.info? 108 = some i ∧ i.zero = some (.agg #[.int .i64 0, .int .i64 0]) ∧ i.size = 2 ∧ i.bytes = 16 := by
  have h : (Tryz.prog.info? 108).map (fun i => (i.zero, i.size, i.bytes)) = some (some (.agg #[.int .i64 0, .int .i64 0]), 2, 16) := by kernel_rfl
  cases hi : Tryz.prog.info? 108 with
  | none => rw [hi] at h; cases h
  | some i =>
    rw [hi] at h
    simp only [Option.map_some] at h
    injection h with h
    injection h with h1 h2
    injection h2 with h2 h3
    exact ⟨i, rfl, h1, h2, h3⟩
theorem append_pD {W : World} {base k : Nat} {v : Value} {l : List Pr} (hown : W.ownsRow base 108 2 v k (pclD l)) (hb : base ≤ W.heap.size) (hk : (k + 1) * 16 ≤ 140737488355328) (p : Pr) :
    ∃ a' c' w', (Builtin.append_ #[76, 76] 76 #[v, .slice (some ⟨W.heap.size, 0, none⟩) 1 1]).run Tryz.prog (W.alloc (.cells #[.int .i64 p.1, .int .i64 p.2] 108)) = .ok (.slice a' (k + 1) c') w' ∧ w'.ownsRow base 108 2 (.slice a' (k + 1) c') (k + 1) (pclD (l ++ [p])) ∧ Keeps (fun i => v.ownBlock = some i) W w' ∧ (∀ g, (Value.slice a' (k + 1) c').ownBlock = some g → v.ownBlock = some g ∨ W.heap.size ≤ g) := by
  obtain ⟨i0, hi0, hz0, hz1, hz2⟩ := iPairs
  have ka : Keeps (fun _ => False) W (W.alloc (.cells (pclD [p]).toArray 108)) := (Keeps.refl _ W).alloc _
  obtain ⟨v', w', hr, ho, hg, _, hbl⟩ := run_append_own_at (P := Tryz.prog) (w := W.alloc (.cells (pclD [p]).toArray 108)) base 76 76 108 i0 _ 2 16 uPairs hi0 hz0 hz1 hz2 rfl (by decide) v k (pclD l) (ka.owns hown (fun _ _ e => e)) ⟨W.heap.size, 0, none⟩ 1 1 (pclD [p]) rfl (fun j u hu => by
      rw [add_at]
      have := (CL.made W (pclD [p]) 108).c j u hu
      simpa using this) (fun u hu => by
      simp [pclD] at hu
      rcases hu with rfl | rfl <;> rfl) (by unfold maxLen; omega) (by omega) (Nat.le_trans hb (by simp))
  have ho2 : w'.ownsRow base 108 2 v' (k + 1) (pclD (l ++ [p])) := by rw [pclD_app]; exact ho
  obtain ⟨a', c', rfl, _⟩ := prl_of_owns ho2
  refine ⟨a', c', w', hr, ho2, ((Keeps.refl _ W).alloc _).grown hg (fun i _ e => e), ?_⟩
  intro g e
  have hbl2 : (Value.slice a' (k + 1) c').ownBlock = v.ownBlock ∨ (Value.slice a' (k + 1) c').ownBlock = some (W.heap.size + 1) := by simpa using hbl
  rcases hbl2 with h | h
  · rw [h] at e; exact .inl e
  · rw [h] at e; injection e with e; exact .inr (by omega)
theorem wpList_append_q {P : Program} {w : World} {ops : Array Oper} {rest : List Oper} {o : Oper} {a : Act} {Q : Exit → Act → World → Prop} (hgd : o.guard = none) (s x : Operand) (t : TypeId)
    (ho : o.op = .call { callee := .builtin .append, args := #[s, x], argTypes := #[t, t] }) (v src v' : Value) (w' : World) (hs : a.eval s = v) (hx : a.eval x = src)
    (hr : (Builtin.append_ #[t, t] o.type #[v, src]).run P w = .ok v' w') (h : wpList P ops Q rest (a.put o.dst v') w') : wpList P ops Q (o :: rest) a w :=
  wpList_plain hgd fun _ hK => by
    unfold Oper.wp execOp
    simp only [ho, resolve, invoke, builtin, Sem.run_bind, Sem.run_pure, Result.andThen_ok, List.map_toArray, List.map_cons, List.map_nil, hs, hx, hr]
    exact hK _ _ h
theorem owns_baseD {w : World} {base : Nat} {e : TypeId} {size : Nat} {v : Value} {n : Nat} {xs : List Value} (h : w.ownsRow base e size v n xs) (k : Nat) (hk : v.ownBlock = some k) : base ≤ k := by
  rcases h.2 with ⟨rfl, _⟩ | ⟨g, cap, cur, rfl, hb, _⟩
  · cases hk
  · simp [Value.ownBlock] at hk; omega
def fixV (l : List Pr) (x : Int) : Int := match fix l x with | none => -1 | some i => (i : Int)
set_option maxHeartbeats 1000000 in
set_option maxRecDepth 100000 in
theorem find_any {w : World} {a : Option Addr} {cap : Nat} {l : List Pr} (hl : PRL w a l) (hn : l.length ≤ 9223372036854775807) (x : Int) : Calls Tryz.prog 41 #[.slice a l.length cap, .int .i64 x] w fun e w' => e = .returned (.int .i64 (fixV l x)) ∧ w' = w := by
  have hst : ∀ k, k < l.length → (∀ j, j < k → (l.getD j (0, 0)).1 ≠ x) → (l.getD k (0, 0)).1 = x → fixV l x = (k : Int) := fun k hk h1 h2 => by
    unfold fixV
    have : fix l x = some k := by
      unfold fix
      rw [List.findIdx?_eq_some_iff_getElem]
      refine ⟨hk, ?_, fun j hj => ?_⟩
      · have : (l[k]).1 = x := by rw [List.getD_eq_getElem?_getD, List.getElem?_eq_getElem hk] at h2; exact h2
        simp [this]
      · have := h1 j hj
        rw [List.getD_eq_getElem?_getD, List.getElem?_eq_getElem (by omega)] at this
        simpa using this
    rw [this]
  have hno : (∀ j, j < l.length → (l.getD j (0, 0)).1 ≠ x) → fixV l x = -1 := fun h => by
    unfold fixV
    have : fix l x = none := by
      unfold fix
      rw [List.findIdx?_eq_none_iff]
      intro p hp
      obtain ⟨j, hj⟩ := List.mem_iff_getElem?.1 hp
      have hl := (List.getElem?_eq_some_iff.1 hj).1
      have := h j hl
      rw [List.getD_eq_getElem?_getD, hj] at this
      simpa using this
    rw [this]
  have HST : Hid _ := hst
  have HNO : Hid _ := hno
  clear hst hno
  generalize hN : l.length = N at *
  go_enter Tryz.func41, Tryz.ntmps41
  go_wp2_with fail
  go_loopw [5] (fun iv Wr => ∃ k : Nat, iv = .int .i64 (k : Int) ∧ k ≤ N ∧ Hid (∀ j, j < k → (l.getD j (0, 0)).1 ≠ x) ∧ Wr = w) (fun iv _ => N - (intOf iv).toNat)
  case atStart => exact ⟨0, rfl, Nat.zero_le _, fun j h => by omega, rfl⟩
  case round =>
    obtain ⟨k, rfl, hk, hd, ew⟩ := hrel
    subst wr
    by_cases hlt : k < N
    · have l1 : decide ((k : Int) < (N : Int)) = true := decide_eq_true (by omega)
      have l2 : (k : Int) < (N : Int) := by omega
      have l3 : (0 : Int) ≤ (k : Int) := by omega
      have l4 : decide (k < N) = true := decide_eq_true hlt
      have hg : l[k]? = some (l.getD k (0, 0)) := by rw [List.getD_eq_getElem?_getD, List.getElem?_eq_getElem (by omega)]; rfl
      obtain ⟨b, off, rfl, c0, -⟩ := hl k _ hg
      by_cases e : (l.getD k (0, 0)).1 = x
      · have HV : Hid (fixV l x = (k : Int)) := HST.out k (by omega) hd.out e
        have b1 : ((l.getD k (0, 0)).1 == x) = true := beq_iff_eq.2 e
        clear hg e
        generalize (l.getD k (0, 0)).1 = p1 at *
        go_wp2
        go_ret
        exact ⟨by rw [HV.out]; rfl, rfl⟩
      · have b1 : ((l.getD k (0, 0)).1 == x) = false := beq_eq_false_iff_ne.2 e
        have HN : Hid (∀ j, j < k + 1 → (l.getD j (0, 0)).1 ≠ x) := fun j hj => by
          by_cases e2 : j = k
          · subst e2; exact e
          · exact hd.out j (by omega)
        clear hg e
        generalize (l.getD k (0, 0)).1 = p1 at *
        go_wp2_with fail
        go_roundw
        case rel => exact ⟨k + 1, by go_num, by omega, HN, by first | trivial | rfl⟩
        case measure => simp [intOf]; omega
    · have e : k = N := by omega
      subst e
      have HV : Hid (fixV l x = -1) := HNO.out (fun j hj => hd.out j (by omega))
      have l1 : decide ((k : Int) < (k : Int)) = false := decide_eq_false (by omega)
      have l4 : decide (k < k) = false := decide_eq_false (by omega)
      go_wp2
      go_ret
      exact ⟨by rw [HV.out]; rfl, rfl⟩
theorem wout_take {l : List Pr} {x : Int} {k : Nat} {p : Pr} (h : l[k]? = some p) : wout (l.take (k + 1)) x = if p.1 = x then wout (l.take k) x else wout (l.take k) x ++ [p] := by
  unfold wout
  rw [List.take_add_one, h, Option.toList_some, List.filter_append]
  by_cases e : p.1 = x
  · rw [if_pos e]; simp [e]
  · rw [if_neg e]; simp [e]
set_option maxHeartbeats 1000000 in
set_option maxRecDepth 100000 in
theorem without_any {w : World} {a : Option Addr} {cap : Nat} {l : List Pr} (hl : PRL w a l) (hn : l.length ≤ 4294967296) (x : Int) : Calls Tryz.prog 63 #[.slice a l.length cap, .int .i64 x] w fun e w' => ∃ a' c', e = .returned (.slice a' (wout l x).length c') ∧ w'.ownsRow w.heap.size 108 2 (.slice a' (wout l x).length c') (wout l x).length (pclD (wout l x)) ∧ Keeps (fun _ => False) w w' := by
  have hwl : ∀ k, (wout (l.take k) x).length ≤ k := fun k => Nat.le_trans (List.length_filter_le _ _) (by rw [List.length_take]; omega)
  have HT : Hid (wout (l.take l.length) x = wout l x) := by show _ = _; rw [List.take_length]
  generalize hN : l.length = N at *
  go_enter Tryz.func63, Tryz.ntmps63
  go_wp2_with fail
  go_loopw [5, 6] (fun v iv Wr => ∃ k : Nat, iv = .int .i64 (k : Int) ∧ k ≤ N ∧ Wr.ownsRow w.heap.size 108 2 v (wout (l.take k) x).length (pclD (wout (l.take k) x)) ∧ Keeps (fun _ => False) w Wr) (fun _ iv _ => N - (intOf iv).toNat)
  case atStart => exact ⟨0, rfl, Nat.zero_le _, World.ownsRow_nil _ _ _ _, Keeps.refl _ w⟩
  case round =>
    obtain ⟨k, rfl, hk, hown, kr⟩ := hrel
    have hle := hwl k
    obtain ⟨av, cv, rfl, -⟩ := prl_of_owns hown
    by_cases hlt : k < N
    · have l1 : decide ((k : Int) < (N : Int)) = true := decide_eq_true (by omega)
      have l2 : (k : Int) < (N : Int) := by omega
      have l3 : (0 : Int) ≤ (k : Int) := by omega
      have l4 : decide (k < N) = true := decide_eq_true hlt
      have hg : l[k]? = some (l.getD k (0, 0)) := by rw [List.getD_eq_getElem?_getD, List.getElem?_eq_getElem (by omega)]; rfl
      have HW : Hid (_ = _) := wout_take (x := x) hg
      obtain ⟨b, off, rfl, c0, c1⟩ := hl k _ hg
      replace c0 := kr.cell c0 (fun e => e)
      replace c1 := kr.cell c1 (fun e => e)
      clear hg
      generalize l.getD k (0, 0) = p at *
      obtain ⟨p1, p2⟩ := p
      simp only at c0 c1
      generalize hO : wout (l.take k) x = O at *
      by_cases e : p1 = x
      · have b1 : (p1 != x) = false := by simp [e]
        have HW2 : Hid (wout (l.take (k + 1)) x = O) := by show _ = _; rw [HW.out, if_pos e]
        clear HW e
        go_wp2_with fail
        go_roundw
        case rel => exact ⟨k + 1, by go_num, by omega, by rw [HW2.out]; exact hown, kr⟩
        case measure => simp [intOf]; omega
      · have b1 : (p1 != x) = true := by simp [e]
        have HW2 : Hid (wout (l.take (k + 1)) x = O ++ [(p1, p2)]) := by show _ = _; rw [HW.out, if_neg e]
        obtain ⟨a', c', W', hr', ho', kq, -⟩ := append_pD hown kr.size (by omega) (p1, p2)
        have HR : Hid (_ = _) := hr'
        clear HW e hr'
        generalize hM : O.length = M at *
        go_wp2_with (at_builtin; refine wpList_append_q rfl _ _ _ rfl _ _ _ W' rfl rfl HR.out ?_; clear HR)
        have K9 : Keeps (fun _ => False) w W' := kr.trans' kq (fun _ _ e => e) (fun i hi e => by have := owns_baseD hown i e; omega)
        go_roundw
        case rel => exact ⟨k + 1, by go_num, by omega, by rw [HW2.out, List.length_append, hM]; exact ho', K9⟩
        case measure => simp [intOf]; omega
    · have e : k = N := by omega
      subst e
      have l1 : decide ((k : Int) < (k : Int)) = false := decide_eq_false (by omega)
      have l4 : decide (k < k) = false := decide_eq_false (by omega)
      rw [HT.out] at hown
      rw [HT.out]
      go_wp2
      go_ret
      exact ⟨av, cv, rfl, hown, kr⟩
end Go.Proofs.YthchbcfecconbaaGreatDoor

