import Derived.Test.YthchbcfecconbaaGreatDoorG04
import Derived.Maps.AppendAt
import Derived.Deep.AppendSrc
import Derived.Deep.OwnRows
namespace Go.Proofs.YthchbcfecconbaaGreatDoor
open Go.RowKit Go.Deep Go.ChangeShapes Go.WideShapes Go.ChangeAt
attribute [local go_sem] Oper.semAt_some run_store_nf run_store_f
theorem pI : Tryz.prog.underlying 22 = some (.slice 62) := by kernel_rfl
theorem pI0 : (Tryz.prog.info? 62).map (fun i => (i.zero, i.size, i.bytes)) = some (some (.agg #[.int .i64 0, .int .i64 0, .bool false, .int .i64 0, .bool false, .int .i64 0, .bool false, .int .i64 0, .int .i64 0, .int .i64 0, .int .i64 0]), 11, 88) := by kernel_rfl
theorem pIi : ∃ i, Tryz.prog.info? 62 = some i ∧ i.zero = some (.agg #[.int .i64 0, .int .i64 0, .bool false, .int .i64 0, .bool false, .int .i64 0, .bool false, .int .i64 0, .int .i64 0, .int .i64 0, .int .i64 0]) ∧ i.size = 11 ∧ i.bytes = 88 := by
  have h := pI0
  cases hq : Tryz.prog.info? 62 with
  | none => rw [hq] at h; cases h
  | some i =>
    rw [hq] at h
    injection h with h
    injection h with h1 h2
    injection h2 with h2 h3
    exact ⟨i, rfl, h1, h2, h3⟩
theorem append_r {W : World} {base k : Nat} {v : Value} {qs : List Ins} (hown : W.ownsRow base 62 11 v k (icl qs)) (hb : base ≤ W.heap.size) (hk : (k + 1) * 88 ≤ 140737488355328) (q : Ins) :
    ∃ v' w', (Builtin.append_ #[22, 22] 22 #[v, .slice (some ⟨W.heap.size, 0, none⟩) 1 1]).run Tryz.prog (W.alloc (.cells #[.int .i64 q.code, .int .i64 q.dst, .bool q.oR, .int .i64 q.oN, .bool q.xR, .int .i64 q.xN, .bool q.yR, .int .i64 q.yN, .int .i64 q.op, .int .i64 q.rel, .int .i64 q.to] 62)) = .ok v' w' ∧ w'.ownsRow base 62 11 v' (k + 1) (icl (qs ++ [q])) ∧ Keeps (fun i => v.ownBlock = some i) W w' := by
  obtain ⟨i0, hi0, hz0, hz1, hz2⟩ := pIi
  obtain ⟨v', w', hr, ho, hg, _, _⟩ := run_append_own_at (P := Tryz.prog) (w := W.alloc (.cells q.cells.toArray 62)) base 22 22 62 i0 _ 11 88 pI hi0 hz0 hz1 hz2 rfl (by decide) v k (icl qs) (((Keeps.refl (fun _ => False) W).alloc _).owns hown (fun _ _ e => e)) ⟨W.heap.size, 0, none⟩ 1 1 q.cells rfl (fun j u hu => by
      rw [add_at]
      have := (CL.made W q.cells 62).c j u hu
      simpa using this) (fun u hu => by
      have := all_oneCell_ins q
      simp [Ins.cells] at hu
      rcases hu with rfl | rfl | rfl | rfl | rfl | rfl | rfl | rfl | rfl | rfl | rfl <;> rfl) (by unfold maxLen; omega) (by omega) (Nat.le_trans hb (by simp))
  refine ⟨v', w', hr, ?_, ((Keeps.refl _ W).alloc _).grown hg (fun i _ e => e)⟩
  unfold icl
  rw [List.flatMap_append]
  simpa [icl] using ho
theorem back_any (w : World) (r : Bool) (n : Int) : Calls Tryz.prog 27 #[.agg #[.bool r, .int .i64 n]] w fun e w' => e = .returned (.agg #[.bool r, .int .i64 n]) ∧ Keeps (fun _ => False) w w' := by
  go_enter Tryz.func27, Tryz.ntmps27
  go_wp2
  refine bodyPost_ret (v := .agg #[.bool r, .int .i64 n]) (by rw [results_cell1 rfl]; go_simp) rfl ⟨rfl, ?_⟩
  exact ((Keeps.refl _ w).alloc _).alloc _
set_option maxHeartbeats 500000 in
set_option maxRecDepth 1000000 in
theorem backs_any {w : World} {a : Option Addr} {cap : Nat} {l : List Ins} (hl : ISL w a l) (hlen : l.length * 88 ≤ 140737488355328) : Calls Tryz.prog 12 #[.slice a l.length cap] w fun e w' => ∃ v, e = .returned v ∧ w'.ownsRow w.heap.size 62 11 v l.length (icl l) ∧ Keeps (fun _ => False) w w' := by
  generalize hN : l.length = N at *
  go_enter Tryz.func12, Tryz.ntmps12
  go_wp2_with fail
  go_loopw [3, 4] (fun v iv W => ∃ k : Nat, k ≤ N ∧ iv = .int .i64 (k : Int) ∧ W.ownsRow w.heap.size 62 11 v k (icl (l.take k)) ∧ Keeps (fun _ => False) w W) (fun _ iv _ => N - (intOf iv).toNat)
  case atStart => exact ⟨0, Nat.zero_le _, rfl, World.ownsRow_nil _ _ _ _, Keeps.refl _ w⟩
  case round =>
    obtain ⟨k, hk, rfl, hown, kW⟩ := hrel
    by_cases hlt : k < N
    · have hltI : decide ((k : Int) < (N : Int)) = true := by simp; omega
      have hltJ : (k : Int) < (N : Int) := by omega
      obtain ⟨b, off, rfl, hc⟩ := hl k (by omega)
      have hc' : ∀ j v, (l.getD k ins0).cells[j]? = some v → wr.cell? ⟨b, off + k * 11 + j, none⟩ = some v := fun j v e => kW.cell (hc j v e) (fun e => e)
      have hR1 := run_insAt (t := 69) hc' ⟨_, Tryz.underlying69⟩ iIn
      have HTk : Hid (l.take (k + 1) = l.take k ++ [l.getD k ins0]) := by
        show _ = _
        rw [List.take_add_one, List.getD_eq_getElem?_getD, List.getElem?_eq_getElem (by omega)]; rfl
      clear hc hc'
      generalize l.getD k ins0 = q at *
      obtain ⟨cd, dst, oR, oN, xR, xN, yR, yN, op, rel, to⟩ := q
      obtain ⟨W4, hW4⟩ : ∃ W4, W4 = wr.alloc (.cells #[.int .i64 0, .int .i64 0, .bool false, .int .i64 0, .bool false, .int .i64 0, .bool false, .int .i64 0, .int .i64 0, .int .i64 0, .int .i64 0] 69) := ⟨_, rfl⟩
      have k4 : Keeps (fun _ => False) wr W4 := by rw [hW4]; exact (Keeps.refl _ wr).alloc _
      have hU4 : CL W4 wr.heap.size ins0.cells := by rw [hW4]; exact CL.made wr ins0.cells _
      have hA := all_oneCell_ins ⟨cd, dst, oR, oN, xR, xN, yR, yN, op, rel, to⟩
      go_wp2_with (first | (refine wpList_load_run rfl 69 _ rfl ⟨b, off + k * 11, none⟩ rfl _ hR1 ?_; clear hR1) | (rw [← hW4]; clear hW4; refine wpList_store_cl rfl 69 _ _ rfl wr.heap.size 0 11 _ rfl rfl rfl hU4 (by show 11 ≤ 11; decide) iIn hA ?_; intro w5 hc5 k5 hsz5; clear hsz5))
      have hI5 : CL w5 wr.heap.size (⟨cd, dst, oR, oN, xR, xN, yR, yN, op, rel, to⟩ : Ins).cells := hc5
      have K45 : Keeps (fun _ => False) wr w5 := k4.trans' k5 (fun _ _ e => e) (fun i hi e => by have e : i = wr.heap.size := e; omega)
      have hnb : ¬ OwB hown wr.heap.size := fun e => by have := owns_lt' hown _ e; omega
      have c0 := hI5.c 0 _ rfl
      have c1 := hI5.c 1 _ rfl
      have c2 := hI5.c 2 _ rfl
      have c3 := hI5.c 3 _ rfl
      have c4 := hI5.c 4 _ rfl
      have c5 := hI5.c 5 _ rfl
      have c6 := hI5.c 6 _ rfl
      have c7 := hI5.c 7 _ rfl
      have c8 := hI5.c 8 _ rfl
      have c9 := hI5.c 9 _ rfl
      have c10 := hI5.c 10 _ rfl
      have hown5 := K45.owns hown (fun _ _ e => e)
      refine wp_region_held_drew (S := fun w' => Keeps (fun i => OwB hown i) w5 w') (by kernel_rfl) (Keeps.refl _ w5).drew (fun hHeld => ?_)
      refine wpAnyH_take (i := 0) (v := ?_) rfl (by kernel_rfl) (by kernel_rfl) (by kernel_rfl) (fun _ _ _ h => h) (Or.inl ⟨by rfl, ?_⟩) (by assumption) ?_
      rotate_left
      · intro wx hSw; have p0 := hSw.cell c0 hnb; have p1 := hSw.cell c1 hnb; have p2 := hSw.cell c2 hnb; have p3 := hSw.cell c3 hnb; have p4 := hSw.cell c4 hnb; have p5 := hSw.cell c5 hnb; have p6 := hSw.cell c6 hnb; have p7 := hSw.cell c7 hnb; have p8 := hSw.cell c8 hnb; have p9 := hSw.cell c9 hnb; have p10 := hSw.cell c10 hnb; clear hSw; go_simp <;> with_reducible rfl
      (try simp only [List.getElem_toArray]); (try simp only [List.getElem_cons_succ]); (try simp only [List.getElem_cons_zero]); (try simp only [Act.put]); (try simp only [List.setIfInBounds_toArray]); (repeat first | simp only [List.set_cons_succ] | simp only [List.set_cons_zero])
      refine wpAnyH_take (i := 1) (v := ?_) rfl (by kernel_rfl) (by kernel_rfl) (by kernel_rfl) (fun _ _ _ h => h) (Or.inl ⟨by rfl, ?_⟩) (by assumption) ?_
      rotate_left
      · intro wx hSw; have p0 := hSw.cell c0 hnb; have p1 := hSw.cell c1 hnb; have p2 := hSw.cell c2 hnb; have p3 := hSw.cell c3 hnb; have p4 := hSw.cell c4 hnb; have p5 := hSw.cell c5 hnb; have p6 := hSw.cell c6 hnb; have p7 := hSw.cell c7 hnb; have p8 := hSw.cell c8 hnb; have p9 := hSw.cell c9 hnb; have p10 := hSw.cell c10 hnb; clear hSw; go_simp <;> with_reducible rfl
      (try simp only [List.getElem_toArray]); (try simp only [List.getElem_cons_succ]); (try simp only [List.getElem_cons_zero]); (try simp only [Act.put]); (try simp only [List.setIfInBounds_toArray]); (repeat first | simp only [List.set_cons_succ] | simp only [List.set_cons_zero])
      refine wpAnyH_take (i := 2) (v := ?_) rfl (by kernel_rfl) (by kernel_rfl) (by kernel_rfl) (fun _ _ _ h => h) (Or.inl ⟨by rfl, ?_⟩) (by assumption) ?_
      rotate_left
      · intro wx hSw; have p0 := hSw.cell c0 hnb; have p1 := hSw.cell c1 hnb; have p2 := hSw.cell c2 hnb; have p3 := hSw.cell c3 hnb; have p4 := hSw.cell c4 hnb; have p5 := hSw.cell c5 hnb; have p6 := hSw.cell c6 hnb; have p7 := hSw.cell c7 hnb; have p8 := hSw.cell c8 hnb; have p9 := hSw.cell c9 hnb; have p10 := hSw.cell c10 hnb; clear hSw; go_simp <;> with_reducible rfl
      (try simp only [List.getElem_toArray]); (try simp only [List.getElem_cons_succ]); (try simp only [List.getElem_cons_zero]); (try simp only [Act.put]); (try simp only [List.setIfInBounds_toArray]); (repeat first | simp only [List.set_cons_succ] | simp only [List.set_cons_zero])
      refine wpAnyH_take (i := 3) (v := ?_) rfl (by kernel_rfl) (by kernel_rfl) (by kernel_rfl) (fun _ _ _ h => h) (Or.inl ⟨by rfl, ?_⟩) (by assumption) ?_
      rotate_left
      · intro wx hSw; have p0 := hSw.cell c0 hnb; have p1 := hSw.cell c1 hnb; have p2 := hSw.cell c2 hnb; have p3 := hSw.cell c3 hnb; have p4 := hSw.cell c4 hnb; have p5 := hSw.cell c5 hnb; have p6 := hSw.cell c6 hnb; have p7 := hSw.cell c7 hnb; have p8 := hSw.cell c8 hnb; have p9 := hSw.cell c9 hnb; have p10 := hSw.cell c10 hnb; clear hSw; go_simp <;> with_reducible rfl
      (try simp only [List.getElem_toArray]); (try simp only [List.getElem_cons_succ]); (try simp only [List.getElem_cons_zero]); (try simp only [Act.put]); (try simp only [List.setIfInBounds_toArray]); (repeat first | simp only [List.set_cons_succ] | simp only [List.set_cons_zero])
      refine wpAnyH_take (i := 4) (v := ?_) rfl (by kernel_rfl) (by kernel_rfl) (by kernel_rfl) (fun _ _ _ h => h) (Or.inl ⟨by rfl, ?_⟩) (by assumption) ?_
      rotate_left
      · intro wx hSw; have p0 := hSw.cell c0 hnb; have p1 := hSw.cell c1 hnb; have p2 := hSw.cell c2 hnb; have p3 := hSw.cell c3 hnb; have p4 := hSw.cell c4 hnb; have p5 := hSw.cell c5 hnb; have p6 := hSw.cell c6 hnb; have p7 := hSw.cell c7 hnb; have p8 := hSw.cell c8 hnb; have p9 := hSw.cell c9 hnb; have p10 := hSw.cell c10 hnb; clear hSw; go_simp <;> with_reducible rfl
      (try simp only [List.getElem_toArray]); (try simp only [List.getElem_cons_succ]); (try simp only [List.getElem_cons_zero]); (try simp only [Act.put]); (try simp only [List.setIfInBounds_toArray]); (repeat first | simp only [List.set_cons_succ] | simp only [List.set_cons_zero])
      refine wpAnyH_take (i := 5) (v := ?_) rfl (by kernel_rfl) (by kernel_rfl) (by kernel_rfl) (fun _ _ _ h => h) (Or.inl ⟨by rfl, ?_⟩) (by assumption) ?_
      rotate_left
      · intro wx hSw; have p0 := hSw.cell c0 hnb; have p1 := hSw.cell c1 hnb; have p2 := hSw.cell c2 hnb; have p3 := hSw.cell c3 hnb; have p4 := hSw.cell c4 hnb; have p5 := hSw.cell c5 hnb; have p6 := hSw.cell c6 hnb; have p7 := hSw.cell c7 hnb; have p8 := hSw.cell c8 hnb; have p9 := hSw.cell c9 hnb; have p10 := hSw.cell c10 hnb; clear hSw; go_simp <;> with_reducible rfl
      (try simp only [List.getElem_toArray]); (try simp only [List.getElem_cons_succ]); (try simp only [List.getElem_cons_zero]); (try simp only [Act.put]); (try simp only [List.setIfInBounds_toArray]); (repeat first | simp only [List.set_cons_succ] | simp only [List.set_cons_zero])
      refine wpAnyH_take (i := 6) (v := ?_) rfl (by kernel_rfl) (by kernel_rfl) (by kernel_rfl) (fun _ _ _ h => h) (Or.inl ⟨by rfl, ?_⟩) (by assumption) ?_
      rotate_left
      · intro wx hSw; have p0 := hSw.cell c0 hnb; have p1 := hSw.cell c1 hnb; have p2 := hSw.cell c2 hnb; have p3 := hSw.cell c3 hnb; have p4 := hSw.cell c4 hnb; have p5 := hSw.cell c5 hnb; have p6 := hSw.cell c6 hnb; have p7 := hSw.cell c7 hnb; have p8 := hSw.cell c8 hnb; have p9 := hSw.cell c9 hnb; have p10 := hSw.cell c10 hnb; clear hSw; go_simp <;> with_reducible rfl
      (try simp only [List.getElem_toArray]); (try simp only [List.getElem_cons_succ]); (try simp only [List.getElem_cons_zero]); (try simp only [Act.put]); (try simp only [List.setIfInBounds_toArray]); (repeat first | simp only [List.set_cons_succ] | simp only [List.set_cons_zero])
      refine wpAnyH_take (i := 8) (v := ?_) rfl (by kernel_rfl) (by kernel_rfl) (by kernel_rfl) (fun _ _ _ h => h) (Or.inl ⟨by rfl, ?_⟩) (by assumption) ?_
      rotate_left
      · intro wx hSw; have p0 := hSw.cell c0 hnb; have p1 := hSw.cell c1 hnb; have p2 := hSw.cell c2 hnb; have p3 := hSw.cell c3 hnb; have p4 := hSw.cell c4 hnb; have p5 := hSw.cell c5 hnb; have p6 := hSw.cell c6 hnb; have p7 := hSw.cell c7 hnb; have p8 := hSw.cell c8 hnb; have p9 := hSw.cell c9 hnb; have p10 := hSw.cell c10 hnb; clear hSw; go_simp <;> with_reducible rfl
      (try simp only [List.getElem_toArray]); (try simp only [List.getElem_cons_succ]); (try simp only [List.getElem_cons_zero]); (try simp only [Act.put]); (try simp only [List.setIfInBounds_toArray]); (repeat first | simp only [List.set_cons_succ] | simp only [List.set_cons_zero])
      refine wpAnyH_take (i := 9) (v := ?_) rfl (by kernel_rfl) (by kernel_rfl) (by kernel_rfl) (fun _ _ _ h => h) (Or.inl ⟨by rfl, ?_⟩) (by assumption) ?_
      rotate_left
      · intro wx hSw; have p0 := hSw.cell c0 hnb; have p1 := hSw.cell c1 hnb; have p2 := hSw.cell c2 hnb; have p3 := hSw.cell c3 hnb; have p4 := hSw.cell c4 hnb; have p5 := hSw.cell c5 hnb; have p6 := hSw.cell c6 hnb; have p7 := hSw.cell c7 hnb; have p8 := hSw.cell c8 hnb; have p9 := hSw.cell c9 hnb; have p10 := hSw.cell c10 hnb; clear hSw; go_simp <;> with_reducible rfl
      (try simp only [List.getElem_toArray]); (try simp only [List.getElem_cons_succ]); (try simp only [List.getElem_cons_zero]); (try simp only [Act.put]); (try simp only [List.setIfInBounds_toArray]); (repeat first | simp only [List.set_cons_succ] | simp only [List.set_cons_zero])
      refine wpAnyH_take (i := 11) (v := ?_) rfl (by kernel_rfl) (by kernel_rfl) (by kernel_rfl) (fun _ _ _ h => h) (Or.inl ⟨by rfl, ?_⟩) (by assumption) ?_
      rotate_left
      · intro wx hSw; have p0 := hSw.cell c0 hnb; have p1 := hSw.cell c1 hnb; have p2 := hSw.cell c2 hnb; have p3 := hSw.cell c3 hnb; have p4 := hSw.cell c4 hnb; have p5 := hSw.cell c5 hnb; have p6 := hSw.cell c6 hnb; have p7 := hSw.cell c7 hnb; have p8 := hSw.cell c8 hnb; have p9 := hSw.cell c9 hnb; have p10 := hSw.cell c10 hnb; clear hSw; go_simp <;> with_reducible rfl
      (try simp only [List.getElem_toArray]); (try simp only [List.getElem_cons_succ]); (try simp only [List.getElem_cons_zero]); (try simp only [Act.put]); (try simp only [List.setIfInBounds_toArray]); (repeat first | simp only [List.set_cons_succ] | simp only [List.set_cons_zero])
      refine wpAnyH_take (i := 12) (v := ?_) rfl (by kernel_rfl) (by kernel_rfl) (by kernel_rfl) (fun _ _ _ h => h) (Or.inl ⟨by rfl, ?_⟩) (by assumption) ?_
      rotate_left
      · intro wx hSw; have p0 := hSw.cell c0 hnb; have p1 := hSw.cell c1 hnb; have p2 := hSw.cell c2 hnb; have p3 := hSw.cell c3 hnb; have p4 := hSw.cell c4 hnb; have p5 := hSw.cell c5 hnb; have p6 := hSw.cell c6 hnb; have p7 := hSw.cell c7 hnb; have p8 := hSw.cell c8 hnb; have p9 := hSw.cell c9 hnb; have p10 := hSw.cell c10 hnb; clear hSw; go_simp <;> with_reducible rfl
      (try simp only [List.getElem_toArray]); (try simp only [List.getElem_cons_succ]); (try simp only [List.getElem_cons_zero]); (try simp only [Act.put]); (try simp only [List.setIfInBounds_toArray]); (repeat first | simp only [List.set_cons_succ] | simp only [List.set_cons_zero])
      refine wpAnyH_take (i := 14) (v := ?_) rfl (by kernel_rfl) (by kernel_rfl) (by kernel_rfl) (fun _ _ _ h => h) (Or.inl ⟨by rfl, ?_⟩) (by assumption) ?_
      rotate_left
      · intro wx hSw; have p0 := hSw.cell c0 hnb; have p1 := hSw.cell c1 hnb; have p2 := hSw.cell c2 hnb; have p3 := hSw.cell c3 hnb; have p4 := hSw.cell c4 hnb; have p5 := hSw.cell c5 hnb; have p6 := hSw.cell c6 hnb; have p7 := hSw.cell c7 hnb; have p8 := hSw.cell c8 hnb; have p9 := hSw.cell c9 hnb; have p10 := hSw.cell c10 hnb; clear hSw; go_simp <;> with_reducible rfl
      (try simp only [List.getElem_toArray]); (try simp only [List.getElem_cons_succ]); (try simp only [List.getElem_cons_zero]); (try simp only [Act.put]); (try simp only [List.setIfInBounds_toArray]); (repeat first | simp only [List.set_cons_succ] | simp only [List.set_cons_zero])
      refine wpAnyH_take (i := 15) (v := ?_) rfl (by kernel_rfl) (by kernel_rfl) (by kernel_rfl) (fun _ _ _ h => h) (Or.inl ⟨by rfl, ?_⟩) (by assumption) ?_
      rotate_left
      · intro wx hSw; have p0 := hSw.cell c0 hnb; have p1 := hSw.cell c1 hnb; have p2 := hSw.cell c2 hnb; have p3 := hSw.cell c3 hnb; have p4 := hSw.cell c4 hnb; have p5 := hSw.cell c5 hnb; have p6 := hSw.cell c6 hnb; have p7 := hSw.cell c7 hnb; have p8 := hSw.cell c8 hnb; have p9 := hSw.cell c9 hnb; have p10 := hSw.cell c10 hnb; clear hSw; go_simp <;> with_reducible rfl
      (try simp only [List.getElem_toArray]); (try simp only [List.getElem_cons_succ]); (try simp only [List.getElem_cons_zero]); (try simp only [Act.put]); (try simp only [List.setIfInBounds_toArray]); (repeat first | simp only [List.set_cons_succ] | simp only [List.set_cons_zero])
      refine wpAnyH_take (i := 16) (v := ?_) rfl (by kernel_rfl) (by kernel_rfl) (by kernel_rfl) (fun _ _ _ h => h) (Or.inl ⟨by rfl, ?_⟩) (by assumption) ?_
      rotate_left
      · intro wx hSw; have p0 := hSw.cell c0 hnb; have p1 := hSw.cell c1 hnb; have p2 := hSw.cell c2 hnb; have p3 := hSw.cell c3 hnb; have p4 := hSw.cell c4 hnb; have p5 := hSw.cell c5 hnb; have p6 := hSw.cell c6 hnb; have p7 := hSw.cell c7 hnb; have p8 := hSw.cell c8 hnb; have p9 := hSw.cell c9 hnb; have p10 := hSw.cell c10 hnb; clear hSw; go_simp <;> with_reducible rfl
      (try simp only [List.getElem_toArray]); (try simp only [List.getElem_cons_succ]); (try simp only [List.getElem_cons_zero]); (try simp only [Act.put]); (try simp only [List.setIfInBounds_toArray]); (repeat first | simp only [List.set_cons_succ] | simp only [List.set_cons_zero])
      refine wpAnyH_take (i := 17) (v := ?_) rfl (by kernel_rfl) (by kernel_rfl) (by kernel_rfl) (fun _ _ _ h => h) (Or.inl ⟨by rfl, ?_⟩) (by assumption) ?_
      rotate_left
      · intro wx hSw; have p0 := hSw.cell c0 hnb; have p1 := hSw.cell c1 hnb; have p2 := hSw.cell c2 hnb; have p3 := hSw.cell c3 hnb; have p4 := hSw.cell c4 hnb; have p5 := hSw.cell c5 hnb; have p6 := hSw.cell c6 hnb; have p7 := hSw.cell c7 hnb; have p8 := hSw.cell c8 hnb; have p9 := hSw.cell c9 hnb; have p10 := hSw.cell c10 hnb; clear hSw; go_simp <;> with_reducible rfl
      (try simp only [List.getElem_toArray]); (try simp only [List.getElem_cons_succ]); (try simp only [List.getElem_cons_zero]); (try simp only [Act.put]); (try simp only [List.setIfInBounds_toArray]); (repeat first | simp only [List.set_cons_succ] | simp only [List.set_cons_zero])
      refine wpAnyH_take (i := 18) (v := ?_) rfl (by kernel_rfl) (by kernel_rfl) (by kernel_rfl) (fun _ _ _ h => h) (Or.inl ⟨by rfl, ?_⟩) (by assumption) ?_
      rotate_left
      · intro wx hSw; have p0 := hSw.cell c0 hnb; have p1 := hSw.cell c1 hnb; have p2 := hSw.cell c2 hnb; have p3 := hSw.cell c3 hnb; have p4 := hSw.cell c4 hnb; have p5 := hSw.cell c5 hnb; have p6 := hSw.cell c6 hnb; have p7 := hSw.cell c7 hnb; have p8 := hSw.cell c8 hnb; have p9 := hSw.cell c9 hnb; have p10 := hSw.cell c10 hnb; clear hSw; go_simp <;> with_reducible rfl
      (try simp only [List.getElem_toArray]); (try simp only [List.getElem_cons_succ]); (try simp only [List.getElem_cons_zero]); (try simp only [Act.put]); (try simp only [List.setIfInBounds_toArray]); (repeat first | simp only [List.set_cons_succ] | simp only [List.set_cons_zero])
      refine wpAnyH_take (i := 19) (v := ?_) rfl (by kernel_rfl) (by kernel_rfl) (by kernel_rfl) (fun _ _ _ h => h) (Or.inl ⟨by rfl, ?_⟩) (by assumption) ?_
      rotate_left
      · intro wx hSw; have p0 := hSw.cell c0 hnb; have p1 := hSw.cell c1 hnb; have p2 := hSw.cell c2 hnb; have p3 := hSw.cell c3 hnb; have p4 := hSw.cell c4 hnb; have p5 := hSw.cell c5 hnb; have p6 := hSw.cell c6 hnb; have p7 := hSw.cell c7 hnb; have p8 := hSw.cell c8 hnb; have p9 := hSw.cell c9 hnb; have p10 := hSw.cell c10 hnb; clear hSw; go_simp <;> with_reducible rfl
      (try simp only [List.getElem_toArray]); (try simp only [List.getElem_cons_succ]); (try simp only [List.getElem_cons_zero]); (try simp only [Act.put]); (try simp only [List.setIfInBounds_toArray]); (repeat first | simp only [List.set_cons_succ] | simp only [List.set_cons_zero])
      refine wpAnyH_one 7 (by kernel_rfl) rfl rfl ?_
      go_simp
      refine (back_any _ oR oN).mono ?_
      rintro e V1 ⟨rfl, kv1⟩
      refine ⟨hHeld.trans (kv1.mono (fun _ _ e => e.elim)), fun hS1 => ?_⟩
      (try simp only [List.getElem_toArray]); (try simp only [List.getElem_cons_succ]); (try simp only [List.getElem_cons_zero]); (try simp only [Act.put]); (try simp only [List.setIfInBounds_toArray]); (repeat first | simp only [List.set_cons_succ] | simp only [List.set_cons_zero])
      refine wpAnyH_one 10 (by kernel_rfl) rfl rfl ?_
      go_simp
      refine (back_any _ xR xN).mono ?_
      rintro e V2 ⟨rfl, kv2⟩
      refine ⟨hS1.trans (kv2.mono (fun _ _ e => e.elim)), fun hS2 => ?_⟩
      (try simp only [List.getElem_toArray]); (try simp only [List.getElem_cons_succ]); (try simp only [List.getElem_cons_zero]); (try simp only [Act.put]); (try simp only [List.setIfInBounds_toArray]); (repeat first | simp only [List.set_cons_succ] | simp only [List.set_cons_zero])
      refine wpAnyH_one 13 (by kernel_rfl) rfl rfl ?_
      go_simp
      refine (back_any _ yR yN).mono ?_
      rintro e V3 ⟨rfl, kv3⟩
      refine ⟨hS2.trans (kv3.mono (fun _ _ e => e.elim)), fun hS3 => ?_⟩
      (try simp only [List.getElem_toArray]); (try simp only [List.getElem_cons_succ]); (try simp only [List.getElem_cons_zero]); (try simp only [Act.put]); (try simp only [List.setIfInBounds_toArray]); (repeat first | simp only [List.set_cons_succ] | simp only [List.set_cons_zero])
      refine wpAnyH_take (i := 20) (v := ?_) rfl (by kernel_rfl) (by kernel_rfl) (by kernel_rfl) (fun _ _ _ h => h) (Or.inl ⟨by rfl, ?_⟩) (by assumption) ?_
      rotate_left
      · intro wx hSw; have p0 := hSw.cell c0 hnb; have p1 := hSw.cell c1 hnb; have p2 := hSw.cell c2 hnb; have p3 := hSw.cell c3 hnb; have p4 := hSw.cell c4 hnb; have p5 := hSw.cell c5 hnb; have p6 := hSw.cell c6 hnb; have p7 := hSw.cell c7 hnb; have p8 := hSw.cell c8 hnb; have p9 := hSw.cell c9 hnb; have p10 := hSw.cell c10 hnb; clear hSw; go_simp <;> with_reducible rfl
      (try simp only [List.getElem_toArray]); (try simp only [List.getElem_cons_succ]); (try simp only [List.getElem_cons_zero]); (try simp only [Act.put]); (try simp only [List.setIfInBounds_toArray]); (repeat first | simp only [List.set_cons_succ] | simp only [List.set_cons_zero])
      have K3 : Keeps (fun _ => False) w5 V3 := (((Keeps.refl (fun _ => False) w5).drew.trans kv1).trans kv2).trans kv3
      have hown3 := K3.owns hown5 (fun _ _ e => e)
      obtain ⟨v', w', hr, ho, kk⟩ := append_r hown3 ((kW.trans K45).trans K3).size (by omega) ⟨cd, dst, oR, oN, xR, xN, yR, yN, op, rel, to⟩
      have HO : Hid (_) := ho
      have HK : Hid (Keeps (fun _ => False) w w') := ((kW.trans K45).trans K3).trans' kk (fun _ _ e => e) (fun i hi e => by have := owns_base hown i e; omega)
      have hSw' : Keeps (fun i => OwB hown i) w5 w' := (K3.mono (fun _ _ e => e.elim)).trans kk
      simp only at hr
      clear ho kk hown3
      refine wpAnyH_one 21 (by kernel_rfl) rfl rfl ?_
      go_simp
      refine ⟨hS3.alloc _, fun hS4 => ?_⟩
      (try simp only [List.getElem_toArray]); (try simp only [List.getElem_cons_succ]); (try simp only [List.getElem_cons_zero]); (try simp only [Act.put]); (try simp only [List.setIfInBounds_toArray]); (repeat first | simp only [List.set_cons_succ] | simp only [List.set_cons_zero])
      refine wpAnyH_one 22 (by kernel_rfl) rfl rfl ?_
      refine wp_append_run _ _ 22 rfl _ _ _ _ rfl rfl hr ?_
      refine ⟨hSw', fun hS5 => ?_⟩
      (try simp only [List.getElem_toArray]); (try simp only [List.getElem_cons_succ]); (try simp only [List.getElem_cons_zero]); (try simp only [Act.put]); (try simp only [List.setIfInBounds_toArray]); (repeat first | simp only [List.set_cons_succ] | simp only [List.set_cons_zero])
      refine wpAnyH_take (i := 23) (v := ?_) rfl (by kernel_rfl) (by kernel_rfl) (by kernel_rfl) (fun _ _ _ h => h) (Or.inl ⟨by rfl, ?_⟩) (by assumption) ?_
      rotate_left
      · intro wx hSw; have p0 := hSw.cell c0 hnb; have p1 := hSw.cell c1 hnb; have p2 := hSw.cell c2 hnb; have p3 := hSw.cell c3 hnb; have p4 := hSw.cell c4 hnb; have p5 := hSw.cell c5 hnb; have p6 := hSw.cell c6 hnb; have p7 := hSw.cell c7 hnb; have p8 := hSw.cell c8 hnb; have p9 := hSw.cell c9 hnb; have p10 := hSw.cell c10 hnb; clear hSw; go_simp <;> with_reducible rfl
      (try simp only [List.getElem_toArray]); (try simp only [List.getElem_cons_succ]); (try simp only [List.getElem_cons_zero]); (try simp only [Act.put]); (try simp only [List.setIfInBounds_toArray]); (repeat first | simp only [List.set_cons_succ] | simp only [List.set_cons_zero])
      refine wpAnyH_done (by kernel_rfl) ?_ _
      go_wp2_with fail
      go_roundw
      case rel => exact ⟨k + 1, by omega, by go_num, by rw [HTk.out]; exact HO.out, HK.out⟩
      case measure => simp [intOf]; omega
    · obtain rfl : k = N := by omega
      have hltI : decide ((k : Int) < (k : Int)) = false := by simp
      have eT : l.take k = l := by rw [← hN]; exact List.take_length
      rw [eT] at hown
      go_wp2_with fail
      go_ret
      exact ⟨_, rfl, hown, kW⟩
end Go.Proofs.YthchbcfecconbaaGreatDoor

namespace Go.Proofs.YthchbcfecconbaaGreatDoor
open Go.RowKit
attribute [local go_sem] Oper.semAt_some run_store_nf run_store_f
theorem takes_load {P : Program} {w : World} {o : Oper} {a : Act} (ty : TypeId) (x : Operand) (ho : o.op = .load ty x) (ad : Addr) (hx : a.eval x = .pointer (some ad)) {v : Value} (hr : (loadVar ty ad).run P w = .ok v w) : (execOp a.eval o).run P w = .ok (.value v) w := by
  unfold execOp
  simp only [ho, hx, Instr.loadAt, Instr.sureAddr, Sem.run_bind, Sem.run_pure, Result.andThen_ok, hr]
theorem wpAnyH_two {P : Program} {ops : Array Oper} {Q : Exit → Act → World → Prop} {md : Region.Mode} {S : World → Prop} {fuel : Nat} {listed : Array Bool} {a : Act} {w : World} {o o2 : Oper} (i i2 : Nat) (hr : Region.ready md ops listed = [i, i2]) (hoi : ops[i]? = some o) (hoi2 : ops[i2]? = some o2) (hw : Region.wanted o (yielded ops a.tmps) = true) (hw2 : Region.wanted o2 (yielded ops a.tmps) = true)
    (h : Oper.wp P o a w (fun a' w' => S w' ∧ (S w' → wpAnyH P md ops Q S fuel (listed.setIfInBounds i true) a' w')) Q) (h2 : Oper.wp P o2 a w (fun a' w' => S w' ∧ (S w' → wpAnyH P md ops Q S fuel (listed.setIfInBounds i2 true) a' w')) Q) : wpAnyH P md ops Q S (fuel + 1) listed a w := by
  refine wpAnyH_ready hr (by simp) (AllReadyH.cons hoi (fun K hK => ?_) (AllReadyH.cons hoi2 (fun K hK => ?_) AllReadyH.nil))
  · rw [if_pos hw]
    exact Oper.wp_mono (fun a' w' e => hK.out _ _ e.1 e.2) h
  · rw [if_pos hw2]
    exact Oper.wp_mono (fun a' w' e => hK.out _ _ e.1 e.2) h2
theorem store_q {W : World} {b : Nat} (h : CL W b ins0.cells) (q : Ins) : CL (W.setCells b 0 q.cells.toArray.toList) b q.cells ∧ Keeps (fun k => k = b) W (W.setCells b 0 q.cells.toArray.toList) := ⟨h.sets (by show 0 + 11 ≤ 11; decide), (Keeps.refl _ W).setsA _ _⟩
set_option maxHeartbeats 500000 in
set_option maxRecDepth 1000000 in
theorem same_any {w : World} {a1 a2 : Option Addr} {c1 c2 : Nat} {l : List Ins} (h1 : ISL w a1 l) (h2 : ISL w a2 l) (hlen : l.length ≤ 9223372036854775807) : Calls Tryz.prog 15 #[.slice a1 l.length c1, .slice a2 l.length c2] w fun e w' => e = .returned (.bool true) ∧ Keeps (fun _ => False) w w' := by
  generalize hN : l.length = N at *
  go_enter Tryz.func15, Tryz.ntmps15
  go_wp2_with fail
  go_loopw [5] (fun iv Wr => ∃ k : Nat, iv = .int .i64 (k : Int) ∧ k ≤ N ∧ Keeps (fun _ => False) w Wr) (fun iv _ => N - (intOf iv).toNat)
  case atStart => exact ⟨0, rfl, Nat.zero_le _, Keeps.refl _ w⟩
  case round =>
    obtain ⟨k, rfl, hk, kr⟩ := hrel
    by_cases hlt : k < N
    · have hltI : decide ((k : Int) < (N : Int)) = true := by simp; omega
      have hltJ : (k : Int) < (N : Int) := by omega
      obtain ⟨b1, o1, rfl, hc1⟩ := h1 k (by omega)
      obtain ⟨b2, o2, rfl, hc2⟩ := h2 k (by omega)
      have hd1 : ∀ j v, (l.getD k ins0).cells[j]? = some v → wr.cell? ⟨b1, o1 + k * 11 + j, none⟩ = some v := fun j v e => kr.cell (hc1 j v e) (fun e => e)
      have hd2 : ∀ j v, (l.getD k ins0).cells[j]? = some v → wr.cell? ⟨b2, o2 + k * 11 + j, none⟩ = some v := fun j v e => kr.cell (hc2 j v e) (fun e => e)
      clear hc1 hc2
      generalize l.getD k ins0 = q at *
      go_wp2_with fail
      rename_i K hK
      have rest : ∀ {x4 x13 x14 x15 x16 x17 x18 x19 x20 x21 x22 x23 x24 x25 x26 x27 x28 x29 x30 x31 x32 x33 x34 x35 x36 x37 x38 x39 x40 x41 x42 x43 x44 x45 x46 x47 x48 x49 x50 x51 x52 x53 x54 x55 x56 x57 x58 x59 x60 x61 x62 x63 x64 x65 x66 x67 x68 x69 x70 x71 x72 x73 x74 x75 x76 x77 x78 x79 x80 x81 x82 x83 x84 x85 x86 x87 x88 x89 x90 x91 x92 x93 x94 x95 x96 x97 x98 x99 x100 x101 x102 x103 x104 x105 x106 x107 x108 x109 x110 x111 : Value} {b6 b7 : Nat} {W8 : World}, CL W8 b6 q.cells → CL W8 b7 q.cells → Keeps (fun _ => False) wr W8 → K { tmps := #[.slice (some ⟨b1, o1, none⟩) N c1, .slice (some ⟨b2, o2, none⟩) N c2, undef, undef, x4, .int .i64 (k : Int), .pointer (some ⟨b6, 0, none⟩), .pointer (some ⟨b7, 0, none⟩), .slice (some ⟨b1, o1, none⟩) N c1, .int .i64 (N : Int), .slice (some ⟨b2, o2, none⟩) N c2, .int .i64 (N : Int), .bool false, x13, x14, x15, x16, x17, x18, x19, x20, x21, x22, x23, x24, x25, x26, x27, x28, x29, x30, x31, x32, x33, x34, x35, x36, x37, x38, x39, x40, x41, x42, x43, x44, x45, x46, x47, x48, x49, x50, x51, x52, x53, x54, x55, x56, x57, x58, x59, x60, x61, x62, x63, x64, x65, x66, x67, x68, x69, x70, x71, x72, x73, x74, x75, x76, x77, x78, x79, x80, x81, x82, x83, x84, x85, x86, x87, x88, x89, x90, x91, x92, x93, x94, x95, x96, x97, x98, x99, x100, x101, x102, x103, x104, x105, x106, x107, x108, x109, x110, x111], defers := [] } W8 := by
        intro x4 x13 x14 x15 x16 x17 x18 x19 x20 x21 x22 x23 x24 x25 x26 x27 x28 x29 x30 x31 x32 x33 x34 x35 x36 x37 x38 x39 x40 x41 x42 x43 x44 x45 x46 x47 x48 x49 x50 x51 x52 x53 x54 x55 x56 x57 x58 x59 x60 x61 x62 x63 x64 x65 x66 x67 x68 x69 x70 x71 x72 x73 x74 x75 x76 x77 x78 x79 x80 x81 x82 x83 x84 x85 x86 x87 x88 x89 x90 x91 x92 x93 x94 x95 x96 x97 x98 x99 x100 x101 x102 x103 x104 x105 x106 x107 x108 x109 x110 x111 b6 b7 W8 hB6 hB7 k8
        refine hK _ _ ?_
        clear hK
        obtain ⟨cd, dst, oR, oN, xR, xN, yR, yN, op, rel, to⟩ := q
        have p0 := hB6.c 0 _ rfl
        have q0 := hB7.c 0 _ rfl
        have p1 := hB6.c 1 _ rfl
        have q1 := hB7.c 1 _ rfl
        have p2 := hB6.c 2 _ rfl
        have q2 := hB7.c 2 _ rfl
        have p3 := hB6.c 3 _ rfl
        have q3 := hB7.c 3 _ rfl
        have p4 := hB6.c 4 _ rfl
        have q4 := hB7.c 4 _ rfl
        have p5 := hB6.c 5 _ rfl
        have q5 := hB7.c 5 _ rfl
        have p6 := hB6.c 6 _ rfl
        have q6 := hB7.c 6 _ rfl
        have p7 := hB6.c 7 _ rfl
        have q7 := hB7.c 7 _ rfl
        have p8 := hB6.c 8 _ rfl
        have q8 := hB7.c 8 _ rfl
        have p9 := hB6.c 9 _ rfl
        have q9 := hB7.c 9 _ rfl
        have p10 := hB6.c 10 _ rfl
        have q10 := hB7.c 10 _ rfl
        clear hB6 hB7 hd1 hd2
        go_wp2_with fail
        go_roundw
        case rel => exact ⟨k + 1, by go_num, by omega, kr.trans k8⟩
        case measure => simp [intOf]; omega
      have restH : Hid _ := @rest
      clear rest hK
      refine wp_region_held_drew (S := fun w' => Keeps (fun _ => False) wr w') (by kernel_rfl) (Keeps.refl _ wr).drew (fun hHeld => ?_)
      refine wpAnyH_take (i := 0) (v := ?_) rfl (by kernel_rfl) (by kernel_rfl) (by kernel_rfl) (fun _ _ _ h => h) (Or.inl ⟨by rfl, ?_⟩) (by assumption) ?_
      rotate_left
      · intro wx hSw; clear hSw; go_simp <;> with_reducible rfl
      (try simp only [List.getElem_toArray]); (try simp only [List.getElem_cons_succ]); (try simp only [List.getElem_cons_zero]); (try simp only [Act.put]); (try simp only [List.setIfInBounds_toArray]); (repeat first | simp only [List.set_cons_succ] | simp only [List.set_cons_zero])
      refine wpAnyH_take (i := 1) (v := ?_) rfl (by kernel_rfl) (by kernel_rfl) (by kernel_rfl) (fun _ _ _ h => h) (Or.inl ⟨by rfl, ?_⟩) (by assumption) ?_
      rotate_left
      · intro wx hSw; clear hSw; go_simp <;> with_reducible rfl
      (try simp only [List.getElem_toArray]); (try simp only [List.getElem_cons_succ]); (try simp only [List.getElem_cons_zero]); (try simp only [Act.put]); (try simp only [List.setIfInBounds_toArray]); (repeat first | simp only [List.set_cons_succ] | simp only [List.set_cons_zero])
      refine wpAnyH_take (i := 2) (v := ?_) rfl (by kernel_rfl) (by kernel_rfl) (by kernel_rfl) (fun _ _ _ h => h) (Or.inl ⟨by rfl, ?_⟩) (by assumption) ?_
      rotate_left
      · intro wx hSw; clear hSw; go_simp <;> with_reducible rfl
      (try simp only [List.getElem_toArray]); (try simp only [List.getElem_cons_succ]); (try simp only [List.getElem_cons_zero]); (try simp only [Act.put]); (try simp only [List.setIfInBounds_toArray]); (repeat first | simp only [List.set_cons_succ] | simp only [List.set_cons_zero])
      refine wpAnyH_take (i := 3) (v := .agg q.cells.toArray) rfl (by kernel_rfl) (by kernel_rfl) (by kernel_rfl) (fun _ _ _ h => h) (Or.inl ⟨by rfl, ?_⟩) (by assumption) ?_
      · intro wx hSw
        have hSw : Keeps (fun _ => False) wr wx := hSw
        exact takes_load 62 _ rfl ⟨b1, o1 + k * 11, none⟩ rfl (run_insAt (fun j v e => hSw.cell (hd1 j v e) (fun e => e)) ⟨_, Tryz.underlying62⟩ iRn)
      (try simp only [List.getElem_toArray]); (try simp only [List.getElem_cons_succ]); (try simp only [List.getElem_cons_zero]); (try simp only [Act.put]); (try simp only [List.setIfInBounds_toArray]); (repeat first | simp only [List.set_cons_succ] | simp only [List.set_cons_zero])
      refine wpAnyH_take (i := 4) (v := ?_) rfl (by kernel_rfl) (by kernel_rfl) (by kernel_rfl) (fun _ _ _ h => h) (Or.inl ⟨by rfl, ?_⟩) (by assumption) ?_
      rotate_left
      · intro wx hSw; clear hSw; go_simp <;> with_reducible rfl
      (try simp only [List.getElem_toArray]); (try simp only [List.getElem_cons_succ]); (try simp only [List.getElem_cons_zero]); (try simp only [Act.put]); (try simp only [List.setIfInBounds_toArray]); (repeat first | simp only [List.set_cons_succ] | simp only [List.set_cons_zero])
      refine wpAnyH_take (i := 5) (v := ?_) rfl (by kernel_rfl) (by kernel_rfl) (by kernel_rfl) (fun _ _ _ h => h) (Or.inl ⟨by rfl, ?_⟩) (by assumption) ?_
      rotate_left
      · intro wx hSw; clear hSw; go_simp <;> with_reducible rfl
      (try simp only [List.getElem_toArray]); (try simp only [List.getElem_cons_succ]); (try simp only [List.getElem_cons_zero]); (try simp only [Act.put]); (try simp only [List.setIfInBounds_toArray]); (repeat first | simp only [List.set_cons_succ] | simp only [List.set_cons_zero])
      refine wpAnyH_take (i := 6) (v := ?_) rfl (by kernel_rfl) (by kernel_rfl) (by kernel_rfl) (fun _ _ _ h => h) (Or.inl ⟨by rfl, ?_⟩) (by assumption) ?_
      rotate_left
      · intro wx hSw; clear hSw; go_simp <;> with_reducible rfl
      (try simp only [List.getElem_toArray]); (try simp only [List.getElem_cons_succ]); (try simp only [List.getElem_cons_zero]); (try simp only [Act.put]); (try simp only [List.setIfInBounds_toArray]); (repeat first | simp only [List.set_cons_succ] | simp only [List.set_cons_zero])
      refine wpAnyH_take (i := 7) (v := .agg q.cells.toArray) rfl (by kernel_rfl) (by kernel_rfl) (by kernel_rfl) (fun _ _ _ h => h) (Or.inl ⟨by rfl, ?_⟩) (by assumption) ?_
      · intro wx hSw
        have hSw : Keeps (fun _ => False) wr wx := hSw
        exact takes_load 62 _ rfl ⟨b2, o2 + k * 11, none⟩ rfl (run_insAt (fun j v e => hSw.cell (hd2 j v e) (fun e => e)) ⟨_, Tryz.underlying62⟩ iRn)
      (try simp only [List.getElem_toArray]); (try simp only [List.getElem_cons_succ]); (try simp only [List.getElem_cons_zero]); (try simp only [Act.put]); (try simp only [List.setIfInBounds_toArray]); (repeat first | simp only [List.set_cons_succ] | simp only [List.set_cons_zero])
      have hA := all_oneCell_ins q
      have m0 := (CL.made wr ins0.cells 62).drew
      have m1 := (CL.made (wr.alloc (.cells ins0.cells.toArray 62)).drew ins0.cells 62)
      have s1 : (wr.alloc (.cells ins0.cells.toArray 62)).drew.heap.size = wr.heap.size + 1 := by simp [World.drew]
      rw [s1] at m1
      have m01 := m0.alloc (by show 0 < 11; decide) (.cells ins0.cells.toArray 62)
      refine wpAnyH_two 8 9 (by kernel_rfl) rfl rfl (by rfl) (by rfl) ?_ ?_
      · go_simp
        refine ⟨hHeld.alloc _, fun hS1 => ?_⟩
        (try simp only [List.getElem_toArray]); (try simp only [List.getElem_cons_succ]); (try simp only [List.getElem_cons_zero]); (try simp only [Act.put]); (try simp only [List.setIfInBounds_toArray]); (repeat first | simp only [List.set_cons_succ] | simp only [List.set_cons_zero])
        refine wpAnyH_one 9 (by kernel_rfl) rfl rfl ?_
        go_simp
        refine ⟨hS1.alloc _, fun hS2 => ?_⟩
        (try simp only [List.getElem_toArray]); (try simp only [List.getElem_cons_succ]); (try simp only [List.getElem_cons_zero]); (try simp only [Act.put]); (try simp only [List.setIfInBounds_toArray]); (repeat first | simp only [List.set_cons_succ] | simp only [List.set_cons_zero])
        have q6 := store_q m01 q
        refine wpAnyH_store 10 (by kernel_rfl) rfl rfl 62 _ _ rfl (wr.heap.size) 0 11 _ rfl rfl rfl (m01.there (by show 0 + 11 ≤ 11; decide)) iRn hA (hS2.trans' q6.2 (fun _ _ e => e) (fun i hi e => by have e : i = wr.heap.size := e; omega)) (fun hS3 => ?_)
        (try simp only [List.getElem_toArray]); (try simp only [List.getElem_cons_succ]); (try simp only [List.getElem_cons_zero]); (try simp only [Act.put]); (try simp only [List.setIfInBounds_toArray]); (repeat first | simp only [List.set_cons_succ] | simp only [List.set_cons_zero])
        have m17 := m1.keep (by show 0 < 11; decide) q6.2 (fun e => by have e : wr.heap.size + 1 = wr.heap.size := e; omega)
        have q7 := store_q m17 q
        refine wpAnyH_store 11 (by kernel_rfl) rfl rfl 62 _ _ rfl (wr.heap.size + 1) 0 11 _ rfl rfl rfl (m17.there (by show 0 + 11 ≤ 11; decide)) iRn hA (hS3.trans' q7.2 (fun _ _ e => e) (fun i hi e => by have e : i = wr.heap.size + 1 := e; omega)) (fun hS4 => ?_)
        (try simp only [List.getElem_toArray]); (try simp only [List.getElem_cons_succ]); (try simp only [List.getElem_cons_zero]); (try simp only [Act.put]); (try simp only [List.setIfInBounds_toArray]); (repeat first | simp only [List.set_cons_succ] | simp only [List.set_cons_zero])
        refine wpAnyH_done (by kernel_rfl) ?_ _
        exact restH.out (q6.1.keep (by show 0 < 11; decide) q7.2 (fun e => by have e : wr.heap.size = wr.heap.size + 1 := e; omega)) q7.1 hS4
      · go_simp
        refine ⟨hHeld.alloc _, fun hS1 => ?_⟩
        (try simp only [List.getElem_toArray]); (try simp only [List.getElem_cons_succ]); (try simp only [List.getElem_cons_zero]); (try simp only [Act.put]); (try simp only [List.setIfInBounds_toArray]); (repeat first | simp only [List.set_cons_succ] | simp only [List.set_cons_zero])
        refine wpAnyH_one 8 (by kernel_rfl) rfl rfl ?_
        go_simp
        refine ⟨hS1.alloc _, fun hS2 => ?_⟩
        (try simp only [List.getElem_toArray]); (try simp only [List.getElem_cons_succ]); (try simp only [List.getElem_cons_zero]); (try simp only [Act.put]); (try simp only [List.setIfInBounds_toArray]); (repeat first | simp only [List.set_cons_succ] | simp only [List.set_cons_zero])
        have q6 := store_q m1 q
        refine wpAnyH_store 10 (by kernel_rfl) rfl rfl 62 _ _ rfl (wr.heap.size + 1) 0 11 _ rfl rfl rfl (m1.there (by show 0 + 11 ≤ 11; decide)) iRn hA (hS2.trans' q6.2 (fun _ _ e => e) (fun i hi e => by have e : i = wr.heap.size + 1 := e; omega)) (fun hS3 => ?_)
        (try simp only [List.getElem_toArray]); (try simp only [List.getElem_cons_succ]); (try simp only [List.getElem_cons_zero]); (try simp only [Act.put]); (try simp only [List.setIfInBounds_toArray]); (repeat first | simp only [List.set_cons_succ] | simp only [List.set_cons_zero])
        have m17 := m01.keep (by show 0 < 11; decide) q6.2 (fun e => by have e : wr.heap.size = wr.heap.size + 1 := e; omega)
        have q7 := store_q m17 q
        refine wpAnyH_store 11 (by kernel_rfl) rfl rfl 62 _ _ rfl (wr.heap.size) 0 11 _ rfl rfl rfl (m17.there (by show 0 + 11 ≤ 11; decide)) iRn hA (hS3.trans' q7.2 (fun _ _ e => e) (fun i hi e => by have e : i = wr.heap.size := e; omega)) (fun hS4 => ?_)
        (try simp only [List.getElem_toArray]); (try simp only [List.getElem_cons_succ]); (try simp only [List.getElem_cons_zero]); (try simp only [Act.put]); (try simp only [List.setIfInBounds_toArray]); (repeat first | simp only [List.set_cons_succ] | simp only [List.set_cons_zero])
        refine wpAnyH_done (by kernel_rfl) ?_ _
        exact restH.out (q6.1.keep (by show 0 < 11; decide) q7.2 (fun e => by have e : wr.heap.size + 1 = wr.heap.size := e; omega)) q7.1 hS4
    · obtain rfl : k = N := by omega
      have hltI : decide ((k : Int) < (k : Int)) = false := by simp
      go_wp2_with fail
      go_ret
      exact ⟨rfl, kr⟩
end Go.Proofs.YthchbcfecconbaaGreatDoor

