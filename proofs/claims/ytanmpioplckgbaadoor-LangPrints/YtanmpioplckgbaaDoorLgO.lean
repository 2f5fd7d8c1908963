import Derived.Test.YtanmpioplckgbaaDoorLgH
import Derived.Maps.AppendAt
import Derived.Deep.AppendSrc
import Derived.Deep.OwnRows
namespace Go.Proofs.YtanmpioplckgbaaDoor
open Go.RowKit Go.Deep Go.ChangeShapes Go.WideShapes Go.ChangeAt
attribute [local go_sem] Oper.semAt_some run_store_nf run_store_f
theorem pI : Tryd.prog.underlying 22 = some (.slice 42) := by kernel_rfl
theorem pI0 : (Tryd.prog.info? 42).map (fun i => (i.zero, i.size, i.bytes)) = some (some (.agg #[.int .i64 0, .int .i64 0, .bool false, .int .i64 0, .bool false, .int .i64 0, .bool false, .int .i64 0, .int .i64 0, .int .i64 0, .int .i64 0]), 11, 88) := by kernel_rfl
theorem pIi : ∃ i, Tryd.prog.info? 42 = some i ∧ i.zero = some (.agg #[.int .i64 0, .int .i64 0, .bool false, .int .i64 0, .bool false, .int .i64 0, .bool false, .int .i64 0, .int .i64 0, .int .i64 0, .int .i64 0]) ∧ i.size = 11 ∧ i.bytes = 88 := by
  have h := pI0
  cases hq : Tryd.prog.info? 42 with
  | none => rw [hq] at h; cases h
  | some i =>
    rw [hq] at h
    injection h with h
    injection h with h1 h2
    injection h2 with h2 h3
    exact ⟨i, rfl, h1, h2, h3⟩
theorem append_r {W : World} {base k : Nat} {v : Value} {qs : List Ins} (hown : W.ownsRow base 42 11 v k (icl qs)) (hb : base ≤ W.heap.size) (hk : (k + 1) * 88 ≤ 140737488355328) (q : Ins) :
    ∃ v' w', (Builtin.append_ #[22, 22] 22 #[v, .slice (some ⟨W.heap.size, 0, none⟩) 1 1]).run Tryd.prog (W.alloc (.cells #[.int .i64 q.code, .int .i64 q.dst, .bool q.oR, .int .i64 q.oN, .bool q.xR, .int .i64 q.xN, .bool q.yR, .int .i64 q.yN, .int .i64 q.op, .int .i64 q.rel, .int .i64 q.to] 42)) = .ok v' w' ∧ w'.ownsRow base 42 11 v' (k + 1) (icl (qs ++ [q])) ∧ Keeps (fun i => v.ownBlock = some i) W w' := by
  obtain ⟨i0, hi0, hz0, hz1, hz2⟩ := pIi
  obtain ⟨v', w', hr, ho, hg, _, _⟩ := run_append_own_at (P := Tryd.prog) (w := W.alloc (.cells q.cells.toArray 42)) base 22 22 42 i0 _ 11 88 pI hi0 hz0 hz1 hz2 rfl (by decide) v k (icl qs) (((Keeps.refl (fun _ => False) W).alloc _).owns hown (fun _ _ e => e)) ⟨W.heap.size, 0, none⟩ 1 1 q.cells rfl (fun j u hu => by
      rw [add_at]
      have := (CL.made W q.cells 42).c j u hu
      simpa using this) (fun u hu => by
      have := all_oneCell_ins q
      simp [Ins.cells] at hu
      rcases hu with rfl | rfl | rfl | rfl | rfl | rfl | rfl | rfl | rfl | rfl | rfl <;> rfl) (by unfold maxLen; omega) (by omega) (Nat.le_trans hb (by simp))
  refine ⟨v', w', hr, ?_, ((Keeps.refl _ W).alloc _).grown hg (fun i _ e => e)⟩
  unfold icl
  rw [List.flatMap_append]
  simpa [icl] using ho
theorem back_any (w : World) (r : Bool) (n : Int) : Calls Tryd.prog 19 #[.agg #[.bool r, .int .i64 n]] w fun e w' => e = .returned (.agg #[.bool r, .int .i64 n]) ∧ Keeps (fun _ => False) w w' := by
  go_enter Tryd.func19, Tryd.ntmps19
  go_wp2
  refine bodyPost_ret (v := .agg #[.bool r, .int .i64 n]) (by rw [results_cell1 rfl]; go_simp) rfl ⟨rfl, ?_⟩
  exact ((Keeps.refl _ w).alloc _).alloc _
set_option maxHeartbeats 500000 in
set_option maxRecDepth 1000000 in
theorem backs_any {w : World} {a : Option Addr} {cap : Nat} {l : List Ins} (hl : ISL w a l) (hlen : l.length * 88 ≤ 140737488355328) : Calls Tryd.prog 8 #[.slice a l.length cap] w fun e w' => ∃ v, e = .returned v ∧ w'.ownsRow w.heap.size 42 11 v l.length (icl l) ∧ Keeps (fun _ => False) w w' := by
  generalize hN : l.length = N at *
  go_enter Tryd.func8, Tryd.ntmps8
  go_wp2_with fail
  go_loopw [3, 4] (fun v iv W => ∃ k : Nat, k ≤ N ∧ iv = .int .i64 (k : Int) ∧ W.ownsRow w.heap.size 42 11 v k (icl (l.take k)) ∧ Keeps (fun _ => False) w W) (fun _ iv _ => N - (intOf iv).toNat)
  case atStart => exact ⟨0, Nat.zero_le _, rfl, World.ownsRow_nil _ _ _ _, Keeps.refl _ w⟩
  case round =>
    obtain ⟨k, hk, rfl, hown, kW⟩ := hrel
    by_cases hlt : k < N
    · have hltI : decide ((k : Int) < (N : Int)) = true := by simp; omega
      have hltJ : (k : Int) < (N : Int) := by omega
      obtain ⟨b, off, rfl, hc⟩ := hl k (by omega)
      have hc' : ∀ j v, (l.getD k ins0).cells[j]? = some v → wr.cell? ⟨b, off + k * 11 + j, none⟩ = some v := fun j v e => kW.cell (hc j v e) (fun e => e)
      have hR1 := run_insAt (t := 31) hc' ⟨_, Tryd.underlying31⟩ iIn
      have HTk : Hid (l.take (k + 1) = l.take k ++ [l.getD k ins0]) := by
        show _ = _
        rw [List.take_add_one, List.getD_eq_getElem?_getD, List.getElem?_eq_getElem (by omega)]; rfl
      clear hc hc'
      generalize l.getD k ins0 = q at *
      obtain ⟨cd, dst, oR, oN, xR, xN, yR, yN, op, rel, to⟩ := q
      obtain ⟨W4, hW4⟩ : ∃ W4, W4 = wr.alloc (.cells #[.int .i64 0, .int .i64 0, .bool false, .int .i64 0, .bool false, .int .i64 0, .bool false, .int .i64 0, .int .i64 0, .int .i64 0, .int .i64 0] 31) := ⟨_, rfl⟩
      have k4 : Keeps (fun _ => False) wr W4 := by rw [hW4]; exact (Keeps.refl _ wr).alloc _
      have hU4 : CL W4 wr.heap.size ins0.cells := by rw [hW4]; exact CL.made wr ins0.cells _
      have hA := all_oneCell_ins ⟨cd, dst, oR, oN, xR, xN, yR, yN, op, rel, to⟩
      go_wp2_with (first | (refine wpList_load_run rfl 31 _ rfl ⟨b, off + k * 11, none⟩ rfl _ hR1 ?_; clear hR1) | (rw [← hW4]; clear hW4; refine wpList_store_cl rfl 31 _ _ rfl wr.heap.size 0 11 _ rfl rfl rfl hU4 (by show 11 ≤ 11; decide) iIn hA ?_; intro w5 hc5 k5 hsz5; clear hsz5))
      have hI5 : CL w5 wr.heap.size (⟨cd, dst, oR, oN, xR, xN, yR, yN, op, rel, to⟩ : Ins).cells := hc5
      have K45 : Keeps (fun _ => False) wr w5 := k4.trans' k5 (fun _ _ e => e) (fun i hi e => by have e : i = wr.heap.size := e; omega)
      have hnb : ¬ OwB hown wr.heap.size := fun e => by have := owns_lt' hown _ e; omega
      have c0 := hI5.c 0 _ rfl
      have c1 := hI5.c 1 _ rfl
      have c2 := hI5.c 2 _ rfl
      have c3 := hI5.c 3 _ rfl
      have c4 := hI5.c 4 _ rfl
      have c5 := hI5.c 5 _ rfl
      have c6 := hI5.c 6 _ rfl
      have c7 := hI5.c 7 _ rfl
      have c8 := hI5.c 8 _ rfl
      have c9 := hI5.c 9 _ rfl
      have c10 := hI5.c 10 _ rfl
      have hown5 := K45.owns hown (fun _ _ e => e)
      refine wp_region_held_drew (S := fun w' => Keeps (fun i => OwB hown i) w5 w') (by kernel_rfl) (Keeps.refl _ w5).drew (fun hHeld => ?_)
      refine wpAnyH_take (i := 0) (v := ?_) rfl (by kernel_rfl) (by kernel_rfl) (by kernel_rfl) (fun _ _ _ h => h) (Or.inl ⟨by rfl, ?_⟩) (by assumption) ?_
      rotate_left
      · intro wx hSw; have p0 := hSw.cell c0 hnb; have p1 := hSw.cell c1 hnb; have p2 := hSw.cell c2 hnb; have p3 := hSw.cell c3 hnb; have p4 := hSw.cell c4 hnb; have p5 := hSw.cell c5 hnb; have p6 := hSw.cell c6 hnb; have p7 := hSw.cell c7 hnb; have p8 := hSw.cell c8 hnb; have p9 := hSw.cell c9 hnb; have p10 := hSw.cell c10 hnb; clear hSw; go_simp <;> with_reducible rfl
      (try simp only [List.getElem_toArray]); (try simp only [List.getElem_cons_succ]); (try simp only [List.getElem_cons_zero]); (try simp only [Act.put]); (try simp only [List.setIfInBounds_toArray]); (repeat first | simp only [List.set_cons_succ] | simp only [List.set_cons_zero])
      refine wpAnyH_take (i := 1) (v := ?_) rfl (by kernel_rfl) (by kernel_rfl) (by kernel_rfl) (fun _ _ _ h => h) (Or.inl ⟨by rfl, ?_⟩) (by assumption) ?_
      rotate_left
      · intro wx hSw; have p0 := hSw.cell c0 hnb; have p1 := hSw.cell c1 hnb; have p2 := hSw.cell c2 hnb; have p3 := hSw.cell c3 hnb; have p4 := hSw.cell c4 hnb; have p5 := hSw.cell c5 hnb; have p6 := hSw.cell c6 hnb; have p7 := hSw.cell c7 hnb; have p8 := hSw.cell c8 hnb; have p9 := hSw.cell c9 hnb; have p10 := hSw.cell c10 hnb; clear hSw; go_simp <;> with_reducible rfl
      (try simp only [List.getElem_toArray]); (try simp only [List.getElem_cons_succ]); (try simp only [List.getElem_cons_zero]); (try simp only [Act.put]); (try simp only [List.setIfInBounds_toArray]); (repeat first | simp only [List.set_cons_succ] | simp only [List.set_cons_zero])
      refine wpAnyH_take (i := 2) (v := ?_) rfl (by kernel_rfl) (by kernel_rfl) (by kernel_rfl) (fun _ _ _ h => h) (Or.inl ⟨by rfl, ?_⟩) (by assumption) ?_
      rotate_left
      · intro wx hSw; have p0 := hSw.cell c0 hnb; have p1 := hSw.cell c1 hnb; have p2 := hSw.cell c2 hnb; have p3 := hSw.cell c3 hnb; have p4 := hSw.cell c4 hnb; have p5 := hSw.cell c5 hnb; have p6 := hSw.cell c6 hnb; have p7 := hSw.cell c7 hnb; have p8 := hSw.cell c8 hnb; have p9 := hSw.cell c9 hnb; have p10 := hSw.cell c10 hnb; clear hSw; go_simp <;> with_reducible rfl
      (try simp only [List.getElem_toArray]); (try simp only [List.getElem_cons_succ]); (try simp only [List.getElem_cons_zero]); (try simp only [Act.put]); (try simp only [List.setIfInBounds_toArray]); (repeat first | simp only [List.set_cons_succ] | simp only [List.set_cons_zero])
      refine wpAnyH_take (i := 3) (v := ?_) rfl (by kernel_rfl) (by kernel_rfl) (by kernel_rfl) (fun _ _ _ h => h) (Or.inl ⟨by rfl, ?_⟩) (by assumption) ?_
      rotate_left
      · intro wx hSw; have p0 := hSw.cell c0 hnb; have p1 := hSw.cell c1 hnb; have p2 := hSw.cell c2 hnb; have p3 := hSw.cell c3 hnb; have p4 := hSw.cell c4 hnb; have p5 := hSw.cell c5 hnb; have p6 := hSw.cell c6 hnb; have p7 := hSw.cell c7 hnb; have p8 := hSw.cell c8 hnb; have p9 := hSw.cell c9 hnb; have p10 := hSw.cell c10 hnb; clear hSw; go_simp <;> with_reducible rfl
      (try simp only [List.getElem_toArray]); (try simp only [List.getElem_cons_succ]); (try simp only [List.getElem_cons_zero]); (try simp only [Act.put]); (try simp only [List.setIfInBounds_toArray]); (repeat first | simp only [List.set_cons_succ] | simp only [List.set_cons_zero])
      refine wpAnyH_take (i := 4) (v := ?_) rfl (by kernel_rfl) (by kernel_rfl) (by kernel_rfl) (fun _ _ _ h => h) (Or.inl ⟨by rfl, ?_⟩) (by assumption) ?_
      rotate_left
      · intro wx hSw; have p0 := hSw.cell c0 hnb; have p1 := hSw.cell c1 hnb; have p2 := hSw.cell c2 hnb; have p3 := hSw.cell c3 hnb; have p4 := hSw.cell c4 hnb; have p5 := hSw.cell c5 hnb; have p6 := hSw.cell c6 hnb; have p7 := hSw.cell c7 hnb; have p8 := hSw.cell c8 hnb; have p9 := hSw.cell c9 hnb; have p10 := hSw.cell c10 hnb; clear hSw; go_simp <;> with_reducible rfl
      (try simp only [List.getElem_toArray]); (try simp only [List.getElem_cons_succ]); (try simp only [List.getElem_cons_zero]); (try simp only [Act.put]); (try simp only [List.setIfInBounds_toArray]); (repeat first | simp only [List.set_cons_succ] | simp only [List.set_cons_zero])
      refine wpAnyH_take (i := 5) (v := ?_) rfl (by kernel_rfl) (by kernel_rfl) (by kernel_rfl) (fun _ _ _ h => h) (Or.inl ⟨by rfl, ?_⟩) (by assumption) ?_
      rotate_left
      · intro wx hSw; have p0 := hSw.cell c0 hnb; have p1 := hSw.cell c1 hnb; have p2 := hSw.cell c2 hnb; have p3 := hSw.cell c3 hnb; have p4 := hSw.cell c4 hnb; have p5 := hSw.cell c5 hnb; have p6 := hSw.cell c6 hnb; have p7 := hSw.cell c7 hnb; have p8 := hSw.cell c8 hnb; have p9 := hSw.cell c9 hnb; have p10 := hSw.cell c10 hnb; clear hSw; go_simp <;> with_reducible rfl
      (try simp only [List.getElem_toArray]); (try simp only [List.getElem_cons_succ]); (try simp only [List.getElem_cons_zero]); (try simp only [Act.put]); (try simp only [List.setIfInBounds_toArray]); (repeat first | simp only [List.set_cons_succ] | simp only [List.set_cons_zero])
      refine wpAnyH_take (i := 6) (v := ?_) rfl (by kernel_rfl) (by kernel_rfl) (by kernel_rfl) (fun _ _ _ h => h) (Or.inl ⟨by rfl, ?_⟩) (by assumption) ?_
      rotate_left
      · intro wx hSw; have p0 := hSw.cell c0 hnb; have p1 := hSw.cell c1 hnb; have p2 := hSw.cell c2 hnb; have p3 := hSw.cell c3 hnb; have p4 := hSw.cell c4 hnb; have p5 := hSw.cell c5 hnb; have p6 := hSw.cell c6 hnb; have p7 := hSw.cell c7 hnb; have p8 := hSw.cell c8 hnb; have p9 := hSw.cell c9 hnb; have p10 := hSw.cell c10 hnb; clear hSw; go_simp <;> with_reducible rfl
      (try simp only [List.getElem_toArray]); (try simp only [List.getElem_cons_succ]); (try simp only [List.getElem_cons_zero]); (try simp only [Act.put]); (try simp only [List.setIfInBounds_toArray]); (repeat first | simp only [List.set_cons_succ] | simp only [List.set_cons_zero])
      refine wpAnyH_take (i := 8) (v := ?_) rfl (by kernel_rfl) (by kernel_rfl) (by kernel_rfl) (fun _ _ _ h => h) (Or.inl ⟨by rfl, ?_⟩) (by assumption) ?_
      rotate_left
      · intro wx hSw; have p0 := hSw.cell c0 hnb; have p1 := hSw.cell c1 hnb; have p2 := hSw.cell c2 hnb; have p3 := hSw.cell c3 hnb; have p4 := hSw.cell c4 hnb; have p5 := hSw.cell c5 hnb; have p6 := hSw.cell c6 hnb; have p7 := hSw.cell c7 hnb; have p8 := hSw.cell c8 hnb; have p9 := hSw.cell c9 hnb; have p10 := hSw.cell c10 hnb; clear hSw; go_simp <;> with_reducible rfl
      (try simp only [List.getElem_toArray]); (try simp only [List.getElem_cons_succ]); (try simp only [List.getElem_cons_zero]); (try simp only [Act.put]); (try simp only [List.setIfInBounds_toArray]); (repeat first | simp only [List.set_cons_succ] | simp only [List.set_cons_zero])
      refine wpAnyH_take (i := 9) (v := ?_) rfl (by kernel_rfl) (by kernel_rfl) (by kernel_rfl) (fun _ _ _ h => h) (Or.inl ⟨by rfl, ?_⟩) (by assumption) ?_
      rotate_left
      · intro wx hSw; have p0 := hSw.cell c0 hnb; have p1 := hSw.cell c1 hnb; have p2 := hSw.cell c2 hnb; have p3 := hSw.cell c3 hnb; have p4 := hSw.cell c4 hnb; have p5 := hSw.cell c5 hnb; have p6 := hSw.cell c6 hnb; have p7 := hSw.cell c7 hnb; have p8 := hSw.cell c8 hnb; have p9 := hSw.cell c9 hnb; have p10 := hSw.cell c10 hnb; clear hSw; go_simp <;> with_reducible rfl
      (try simp only [List.getElem_toArray]); (try simp only [List.getElem_cons_succ]); (try simp only [List.getElem_cons_zero]); (try simp only [Act.put]); (try simp only [List.setIfInBounds_toArray]); (repeat first | simp only [List.set_cons_succ] | simp only [List.set_cons_zero])
      refine wpAnyH_take (i := 11) (v := ?_) rfl (by kernel_rfl) (by kernel_rfl) (by kernel_rfl) (fun _ _ _ h => h) (Or.inl ⟨by rfl, ?_⟩) (by assumption) ?_
      rotate_left
      · intro wx hSw; have p0 := hSw.cell c0 hnb; have p1 := hSw.cell c1 hnb; have p2 := hSw.cell c2 hnb; have p3 := hSw.cell c3 hnb; have p4 := hSw.cell c4 hnb; have p5 := hSw.cell c5 hnb; have p6 := hSw.cell c6 hnb; have p7 := hSw.cell c7 hnb; have p8 := hSw.cell c8 hnb; have p9 := hSw.cell c9 hnb; have p10 := hSw.cell c10 hnb; clear hSw; go_simp <;> with_reducible rfl
      (try simp only [List.getElem_toArray]); (try simp only [List.getElem_cons_succ]); (try simp only [List.getElem_cons_zero]); (try simp only [Act.put]); (try simp only [List.setIfInBounds_toArray]); (repeat first | simp only [List.set_cons_succ] | simp only [List.set_cons_zero])
      refine wpAnyH_take (i := 12) (v := ?_) rfl (by kernel_rfl) (by kernel_rfl) (by kernel_rfl) (fun _ _ _ h => h) (Or.inl ⟨by rfl, ?_⟩) (by assumption) ?_
      rotate_left
      · intro wx hSw; have p0 := hSw.cell c0 hnb; have p1 := hSw.cell c1 hnb; have p2 := hSw.cell c2 hnb; have p3 := hSw.cell c3 hnb; have p4 := hSw.cell c4 hnb; have p5 := hSw.cell c5 hnb; have p6 := hSw.cell c6 hnb; have p7 := hSw.cell c7 hnb; have p8 := hSw.cell c8 hnb; have p9 := hSw.cell c9 hnb; have p10 := hSw.cell c10 hnb; clear hSw; go_simp <;> with_reducible rfl
      (try simp only [List.getElem_toArray]); (try simp only [List.getElem_cons_succ]); (try simp only [List.getElem_cons_zero]); (try simp only [Act.put]); (try simp only [List.setIfInBounds_toArray]); (repeat first | simp only [List.set_cons_succ] | simp only [List.set_cons_zero])
      refine wpAnyH_take (i := 14) (v := ?_) rfl (by kernel_rfl) (by kernel_rfl) (by kernel_rfl) (fun _ _ _ h => h) (Or.inl ⟨by rfl, ?_⟩) (by assumption) ?_
      rotate_left
      · intro wx hSw; have p0 := hSw.cell c0 hnb; have p1 := hSw.cell c1 hnb; have p2 := hSw.cell c2 hnb; have p3 := hSw.cell c3 hnb; have p4 := hSw.cell c4 hnb; have p5 := hSw.cell c5 hnb; have p6 := hSw.cell c6 hnb; have p7 := hSw.cell c7 hnb; have p8 := hSw.cell c8 hnb; have p9 := hSw.cell c9 hnb; have p10 := hSw.cell c10 hnb; clear hSw; go_simp <;> with_reducible rfl
      (try simp only [List.getElem_toArray]); (try simp only [List.getElem_cons_succ]); (try simp only [List.getElem_cons_zero]); (try simp only [Act.put]); (try simp only [List.setIfInBounds_toArray]); (repeat first | simp only [List.set_cons_succ] | simp only [List.set_cons_zero])
      refine wpAnyH_take (i := 15) (v := ?_) rfl (by kernel_rfl) (by kernel_rfl) (by kernel_rfl) (fun _ _ _ h => h) (Or.inl ⟨by rfl, ?_⟩) (by assumption) ?_
      rotate_left
      · intro wx hSw; have p0 := hSw.cell c0 hnb; have p1 := hSw.cell c1 hnb; have p2 := hSw.cell c2 hnb; have p3 := hSw.cell c3 hnb; have p4 := hSw.cell c4 hnb; have p5 := hSw.cell c5 hnb; have p6 := hSw.cell c6 hnb; have p7 := hSw.cell c7 hnb; have p8 := hSw.cell c8 hnb; have p9 := hSw.cell c9 hnb; have p10 := hSw.cell c10 hnb; clear hSw; go_simp <;> with_reducible rfl
      (try simp only [List.getElem_toArray]); (try simp only [List.getElem_cons_succ]); (try simp only [List.getElem_cons_zero]); (try simp only [Act.put]); (try simp only [List.setIfInBounds_toArray]); (repeat first | simp only [List.set_cons_succ] | simp only [List.set_cons_zero])
      refine wpAnyH_take (i := 16) (v := ?_) rfl (by kernel_rfl) (by kernel_rfl) (by kernel_rfl) (fun _ _ _ h => h) (Or.inl ⟨by rfl, ?_⟩) (by assumption) ?_
      rotate_left
      · intro wx hSw; have p0 := hSw.cell c0 hnb; have p1 := hSw.cell c1 hnb; have p2 := hSw.cell c2 hnb; have p3 := hSw.cell c3 hnb; have p4 := hSw.cell c4 hnb; have p5 := hSw.cell c5 hnb; have p6 := hSw.cell c6 hnb; have p7 := hSw.cell c7 hnb; have p8 := hSw.cell c8 hnb; have p9 := hSw.cell c9 hnb; have p10 := hSw.cell c10 hnb; clear hSw; go_simp <;> with_reducible rfl
      (try simp only [List.getElem_toArray]); (try simp only [List.getElem_cons_succ]); (try simp only [List.getElem_cons_zero]); (try simp only [Act.put]); (try simp only [List.setIfInBounds_toArray]); (repeat first | simp only [List.set_cons_succ] | simp only [List.set_cons_zero])
      refine wpAnyH_take (i := 17) (v := ?_) rfl (by kernel_rfl) (by kernel_rfl) (by kernel_rfl) (fun _ _ _ h => h) (Or.inl ⟨by rfl, ?_⟩) (by assumption) ?_
      rotate_left
      · intro wx hSw; have p0 := hSw.cell c0 hnb; have p1 := hSw.cell c1 hnb; have p2 := hSw.cell c2 hnb; have p3 := hSw.cell c3 hnb; have p4 := hSw.cell c4 hnb; have p5 := hSw.cell c5 hnb; have p6 := hSw.cell c6 hnb; have p7 := hSw.cell c7 hnb; have p8 := hSw.cell c8 hnb; have p9 := hSw.cell c9 hnb; have p10 := hSw.cell c10 hnb; clear hSw; go_simp <;> with_reducible rfl
      (try simp only [List.getElem_toArray]); (try simp only [List.getElem_cons_succ]); (try simp only [List.getElem_cons_zero]); (try simp only [Act.put]); (try simp only [List.setIfInBounds_toArray]); (repeat first | simp only [List.set_cons_succ] | simp only [List.set_cons_zero])
      refine wpAnyH_take (i := 18) (v := ?_) rfl (by kernel_rfl) (by kernel_rfl) (by kernel_rfl) (fun _ _ _ h => h) (Or.inl ⟨by rfl, ?_⟩) (by assumption) ?_
      rotate_left
      · intro wx hSw; have p0 := hSw.cell c0 hnb; have p1 := hSw.cell c1 hnb; have p2 := hSw.cell c2 hnb; have p3 := hSw.cell c3 hnb; have p4 := hSw.cell c4 hnb; have p5 := hSw.cell c5 hnb; have p6 := hSw.cell c6 hnb; have p7 := hSw.cell c7 hnb; have p8 := hSw.cell c8 hnb; have p9 := hSw.cell c9 hnb; have p10 := hSw.cell c10 hnb; clear hSw; go_simp <;> with_reducible rfl
      (try simp only [List.getElem_toArray]); (try simp only [List.getElem_cons_succ]); (try simp only [List.getElem_cons_zero]); (try simp only [Act.put]); (try simp only [List.setIfInBounds_toArray]); (repeat first | simp only [List.set_cons_succ] | simp only [List.set_cons_zero])
      refine wpAnyH_take (i := 19) (v := ?_) rfl (by kernel_rfl) (by kernel_rfl) (by kernel_rfl) (fun _ _ _ h => h) (Or.inl ⟨by rfl, ?_⟩) (by assumption) ?_
      rotate_left
      · intro wx hSw; have p0 := hSw.cell c0 hnb; have p1 := hSw.cell c1 hnb; have p2 := hSw.cell c2 hnb; have p3 := hSw.cell c3 hnb; have p4 := hSw.cell c4 hnb; have p5 := hSw.cell c5 hnb; have p6 := hSw.cell c6 hnb; have p7 := hSw.cell c7 hnb; have p8 := hSw.cell c8 hnb; have p9 := hSw.cell c9 hnb; have p10 := hSw.cell c10 hnb; clear hSw; go_simp <;> with_reducible rfl
      (try simp only [List.getElem_toArray]); (try simp only [List.getElem_cons_succ]); (try simp only [List.getElem_cons_zero]); (try simp only [Act.put]); (try simp only [List.setIfInBounds_toArray]); (repeat first | simp only [List.set_cons_succ] | simp only [List.set_cons_zero])
      refine wpAnyH_one 7 (by kernel_rfl) rfl rfl ?_
      go_simp
      refine (back_any _ oR oN).mono ?_
      rintro e V1 ⟨rfl, kv1⟩
      refine ⟨hHeld.trans (kv1.mono (fun _ _ e => e.elim)), fun hS1 => ?_⟩
      (try simp only [List.getElem_toArray]); (try simp only [List.getElem_cons_succ]); (try simp only [List.getElem_cons_zero]); (try simp only [Act.put]); (try simp only [List.setIfInBounds_toArray]); (repeat first | simp only [List.set_cons_succ] | simp only [List.set_cons_zero])
      refine wpAnyH_one 10 (by kernel_rfl) rfl rfl ?_
      go_simp
      refine (back_any _ xR xN).mono ?_
      rintro e V2 ⟨rfl, kv2⟩
      refine ⟨hS1.trans (kv2.mono (fun _ _ e => e.elim)), fun hS2 => ?_⟩
      (try simp only [List.getElem_toArray]); (try simp only [List.getElem_cons_succ]); (try simp only [List.getElem_cons_zero]); (try simp only [Act.put]); (try simp only [List.setIfInBounds_toArray]); (repeat first | simp only [List.set_cons_succ] | simp only [List.set_cons_zero])
      refine wpAnyH_one 13 (by kernel_rfl) rfl rfl ?_
      go_simp
      refine (back_any _ yR yN).mono ?_
      rintro e V3 ⟨rfl, kv3⟩
      refine ⟨hS2.trans (kv3.mono (fun _ _ e => e.elim)), fun hS3 => ?_⟩
      (try simp only [List.getElem_toArray]); (try simp only [List.getElem_cons_succ]); (try simp only [List.getElem_cons_zero]); (try simp only [Act.put]); (try simp only [List.setIfInBounds_toArray]); (repeat first | simp only [List.set_cons_succ] | simp only [List.set_cons_zero])
      refine wpAnyH_take (i := 20) (v := ?_) rfl (by kernel_rfl) (by kernel_rfl) (by kernel_rfl) (fun _ _ _ h => h) (Or.inl ⟨by rfl, ?_⟩) (by assumption) ?_
      rotate_left
      · intro wx hSw; have p0 := hSw.cell c0 hnb; have p1 := hSw.cell c1 hnb; have p2 := hSw.cell c2 hnb; have p3 := hSw.cell c3 hnb; have p4 := hSw.cell c4 hnb; have p5 := hSw.cell c5 hnb; have p6 := hSw.cell c6 hnb; have p7 := hSw.cell c7 hnb; have p8 := hSw.cell c8 hnb; have p9 := hSw.cell c9 hnb; have p10 := hSw.cell c10 hnb; clear hSw; go_simp <;> with_reducible rfl
      (try simp only [List.getElem_toArray]); (try simp only [List.getElem_cons_succ]); (try simp only [List.getElem_cons_zero]); (try simp only [Act.put]); (try simp only [List.setIfInBounds_toArray]); (repeat first | simp only [List.set_cons_succ] | simp only [List.set_cons_zero])
      have K3 : Keeps (fun _ => False) w5 V3 := (((Keeps.refl (fun _ => False) w5).drew.trans kv1).trans kv2).trans kv3
      have hown3 := K3.owns hown5 (fun _ _ e => e)
      obtain ⟨v', w', hr, ho, kk⟩ := append_r hown3 ((kW.trans K45).trans K3).size (by omega) ⟨cd, dst, oR, oN, xR, xN, yR, yN, op, rel, to⟩
      have HO : Hid (_) := ho
      have HK : Hid (Keeps (fun _ => False) w w') := ((kW.trans K45).trans K3).trans' kk (fun _ _ e => e) (fun i hi e => by have := owns_base hown i e; omega)
      have hSw' : Keeps (fun i => OwB hown i) w5 w' := (K3.mono (fun _ _ e => e.elim)).trans kk
      simp only at hr
      clear ho kk hown3
      refine wpAnyH_one 21 (by kernel_rfl) rfl rfl ?_
      go_simp
      refine ⟨hS3.alloc _, fun hS4 => ?_⟩
      (try simp only [List.getElem_toArray]); (try simp only [List.getElem_cons_succ]); (try simp only [List.getElem_cons_zero]); (try simp only [Act.put]); (try simp only [List.setIfInBounds_toArray]); (repeat first | simp only [List.set_cons_succ] | simp only [List.set_cons_zero])
      refine wpAnyH_one 22 (by kernel_rfl) rfl rfl ?_
      refine wp_append_run _ _ 22 rfl _ _ _ _ rfl rfl hr ?_
      refine ⟨hSw', fun hS5 => ?_⟩
      (try simp only [List.getElem_toArray]); (try simp only [List.getElem_cons_succ]); (try simp only [List.getElem_cons_zero]); (try simp only [Act.put]); (try simp only [List.setIfInBounds_toArray]); (repeat first | simp only [List.set_cons_succ] | simp only [List.set_cons_zero])
      refine wpAnyH_take (i := 23) (v := ?_) rfl (by kernel_rfl) (by kernel_rfl) (by kernel_rfl) (fun _ _ _ h => h) (Or.inl ⟨by rfl, ?_⟩) (by assumption) ?_
      rotate_left
      · intro wx hSw; have p0 := hSw.cell c0 hnb; have p1 := hSw.cell c1 hnb; have p2 := hSw.cell c2 hnb; have p3 := hSw.cell c3 hnb; have p4 := hSw.cell c4 hnb; have p5 := hSw.cell c5 hnb; have p6 := hSw.cell c6 hnb; have p7 := hSw.cell c7 hnb; have p8 := hSw.cell c8 hnb; have p9 := hSw.cell c9 hnb; have p10 := hSw.cell c10 hnb; clear hSw; go_simp <;> with_reducible rfl
      (try simp only [List.getElem_toArray]); (try simp only [List.getElem_cons_succ]); (try simp only [List.getElem_cons_zero]); (try simp only [Act.put]); (try simp only [List.setIfInBounds_toArray]); (repeat first | simp only [List.set_cons_succ] | simp only [List.set_cons_zero])
      refine wpAnyH_done (by kernel_rfl) ?_ _
      go_wp2_with fail
      go_roundw
      case rel => exact ⟨k + 1, by omega, by go_num, by rw [HTk.out]; exact HO.out, HK.out⟩
      case measure => simp [intOf]; omega
    · obtain rfl : k = N := by omega
      have hltI : decide ((k : Int) < (k : Int)) = false := by simp
      have eT : l.take k = l := by rw [← hN]; exact List.take_length
      rw [eT] at hown
      go_wp2_with fail
      go_ret
      exact ⟨_, rfl, hown, kW⟩
end Go.Proofs.YtanmpioplckgbaaDoor
