import Derived.Test.YtmnmphkkcabkiaaG14
import Derived.Test.YtmnmphkkcabkiaaG15
namespace Go.Proofs.Ytmnmphkkcabkiaa
open Go.RowKit
attribute [local go_sem] Oper.semAt_some run_store_nf run_store_f
theorem append_stay {t e : TypeId} {z : Value} {size bytes : Nat} (ht : Try.prog.underlying t = some (.slice e)) (hinfo : (Try.prog.info? e).map (fun i => (i.zero, i.size, i.bytes)) = some (some z, size, bytes)) (hz : z.cells.size = size) (hs : 0 < size) {W : World} {base k : Nat} {v : Value} {xs : List Value} (hown : W.ownsRow base e size v k xs) (hb : base ≤ W.heap.size) (hb0 : 0 < bytes) (hk : (k + 2) * bytes ≤ 140737488355328) (q : List Value) (hq : q.length = 2 * size) (h1 : ∀ u ∈ q, u.oneCell' = true) :
    ∃ v' W', (Builtin.append_ #[t, t] t #[v, .slice (some ⟨W.heap.size, 0, none⟩) 2 2]).run Try.prog (W.alloc (.cells q.toArray e)) = .ok v' W' ∧ W'.ownsRow base e size v k xs ∧ Keeps (fun i => v.ownBlock = some i) W W' := by
  obtain ⟨i0, hi0, hzz⟩ := Option.map_eq_some_iff.1 hinfo
  simp only [Prod.mk.injEq] at hzz
  obtain ⟨hz0, hz1, hz2⟩ := hzz
  have hk2 : k + 2 ≤ 140737488355328 := Nat.le_trans (Nat.le_mul_of_pos_right _ hb0) hk
  have ka : Keeps (fun _ => False) W (W.alloc (.cells q.toArray e)) := (Keeps.refl _ W).alloc _
  have own2 := ka.owns hown (fun _ _ e => e)
  have hnews : ∀ j u, q[j]? = some u → (W.alloc (.cells q.toArray e)).cell? ((⟨W.heap.size, 0, none⟩ : Addr).add j) = some u := fun j y hy => by
    rw [add_atT]
    have := (CL.made W q e).c j y hy
    simpa using this
  obtain ⟨v', w', hr, ho, hg, _, hbl⟩ := run_append_own_at (P := Try.prog) (w := W.alloc (.cells q.toArray e)) base t t e i0 _ size bytes ht hi0 hz0 hz1 hz2 hz hs v k xs own2 ⟨W.heap.size, 0, none⟩ 2 2 q hq hnews h1 (by unfold maxLen; omega) (by omega) (Nat.le_trans hb (by simp))
  refine ⟨v', w', hr, ?_, ((Keeps.refl _ W).alloc _).grown hg (fun i _ e => e)⟩
  rcases hown.2 with ⟨rfl, h0⟩ | ⟨g, cap, cur, rfl, hbg, hgg, hnc, hcm, hcs, htk⟩
  · exact ⟨hown.1, .inl ⟨rfl, h0⟩⟩
  · by_cases hfit : k + 2 ≤ cap
    · obtain ⟨w2, hr2, ho2, _⟩ := run_append_fits (P := Try.prog) (w := W.alloc (.cells q.toArray e)) base t t e i0 size ht hi0 hz1 g k cap xs own2 ⟨W.heap.size, 0, none⟩ 2 2 q hq hnews h1 hfit
      rw [hr] at hr2
      cases hr2
      refine ⟨hown.1, .inr ?_⟩
      rcases ho2.2 with ⟨h, _⟩ | ⟨g', cap', cur', h, hb', hg', _, hcm', hcs', htk'⟩
      · cases h
      · cases h
        refine ⟨g, cap, cur', rfl, hbg, hg', hnc, hcm, hcs', ?_⟩
        have h3 : (xs ++ q).take (k * size) = xs := by
          rw [List.take_append_of_le_length (by rw [hown.1]; exact Nat.le_refl _)]
          exact List.take_of_length_le (by rw [hown.1]; exact Nat.le_refl _)
        rw [← h3, ← htk', List.take_take, Nat.min_eq_left (Nat.mul_le_mul_right _ (by omega))]
    · have hr2 := run_append_grow (P := Try.prog) (w := W.alloc (.cells q.toArray e)) t t e i0 _ ht hi0 hz0 ⟨g, 0, none⟩ k cap xs (by rw [hz1]; exact hown.1) (fun j u e => own2.cells rfl j u e) ⟨W.heap.size, 0, none⟩ 2 2 q (by rw [hz1]; exact hq) hnews (by omega) (by omega) (by rw [hz2]; exact growslice_fits (by omega) (by omega))
      rw [hr] at hr2
      cases hr2
      exact (((ka.drew).alloc _)).owns hown (fun _ _ e => e)
theorem run_store_one {w : World} {b o : Nat} {ty : TypeId} (ht : ty = 3 ∨ ty = 2) (hc : (w.cell? ⟨b, o, none⟩).isSome = true) (hz : w.frozen? ⟨b, o, none⟩ = false) (v : Int) : (storeVar ty ⟨b, o, none⟩ (.int .i64 v)).run Try.prog w = .ok () (w.setCell ⟨b, o, none⟩ (.int .i64 v)) := by
  rcases ht with rfl | rfl
  · exact run_store_int hc hz v
  · exact run_store_i64 hc hz v
theorem wpList_store_c1 {w : World} {ops : Array Oper} {rest : List Oper} {o : Oper} {a : Act} {Q : Exit → Act → World → Prop} (hgd : o.guard = none) (hd : o.dst = none) (ty : TypeId) (ht : ty = 3 ∨ ty = 2) (x y : Operand) (ho : o.op = .store ty x y) (b off : Nat) (hx : a.eval x = .pointer (some ⟨b, off, none⟩)) (v : Int) (hy : a.eval y = .int .i64 v)
    {l : List Value} (hB : CL w b l) (hl : off < l.length) (h : ∀ w1, CL w1 b (l.set off (.int .i64 v)) → Keeps (fun k => k = b) w w1 → wpList Try.prog ops Q rest a w1) : wpList Try.prog ops Q (o :: rest) a w :=
  wpList_plain hgd fun _ hK => by
    unfold Oper.wp execOp
    simp only [ho, hx, hy, Instr.storeAt, Instr.sureAddr, Sem.run_bind, Sem.run_pure, Result.andThen_ok, run_store_one ht (by rw [hB.c off _ (List.getElem?_eq_getElem hl)]; rfl) (hB.z off hl) v]
    refine hK _ _ ?_
    rw [hd]
    exact (h _ (hB.set hl _) ((Keeps.refl (fun k => k = b) w).setCell (p := ⟨b, off, none⟩) (fun _ => rfl) _))
def mv6 (r : Rw) : Rw :=
  { r with step := wrap64 (r.step + 6), no := if 0 ≤ r.no then wrap64 (r.no + 1) else r.no, seen := if r.kind = 1 then wrap64 (r.seen + 1) else r.seen, job := if r.thread = 0 then wrap64 (r.job + 1) else r.job }
theorem iRowM : (Try.prog.info? 50).map (fun i => (i.zero, i.size, i.bytes)) = some (some (.agg rw0.cells.toArray), 26, 192) := by kernel_rfl
theorem wpList_buildRow {ops : Array Oper} {rest : List Oper} {o : Oper} {a : Act} {w : World} {Q : Exit → Act → World → Prop} (hg : o.guard = none) (x : Operand) (ho : o.op = .buildSlice 23 1 #[(0, x)]) (cs : Array Value) (hc : cs.size = 26) (hx : a.eval x = .agg cs)
    (h : wpList Try.prog ops Q rest (a.put o.dst (.slice (some ⟨w.heap.size, 0, none⟩) 1 1)) (w.alloc (.cells cs 50))) : wpList Try.prog ops Q (o :: rest) a w := by
  obtain ⟨i0, hi0, hzz⟩ := Option.map_eq_some_iff.1 iRowM
  simp only [Prod.mk.injEq] at hzz
  obtain ⟨hz0, hz1, -⟩ := hzz
  refine wpList_buildSlice hg 23 50 1 _ ho cs i0 _ uRows hi0 hz0 (by rw [hz1]; decide) (by rw [hz1]; decide) ?_ h
  rw [hz1]
  have e : (#[(0, x)].map fun (i, x) => (i, a.eval x)).toList = ([Value.agg cs].zipIdx 0).map fun x => (x.2, x.1) := by simp [hx]
  have e2 : ([Value.agg cs].flatMap fun v => v.cells.toList).toArray = cs := by simp; rfl
  rw [e, Great.fill_whole (s := 26) (by decide) [Value.agg cs] _ (fun v hv => by simp at hv; subst hv; exact hc) (by simp), e2]
theorem rcl_app1 (l : List Rw) (r : Rw) : rcl (l ++ [r]) = rcl l ++ r.cells := by
  unfold rcl
  rw [List.flatMap_append]
  simp
set_option maxHeartbeats 1000000 in
set_option maxRecDepth 100000 in
theorem moved_any {w : World} {a : Option Addr} {cap : Nat} {l : List Rw} (hl : RSL w a l) (hn : l.length * 192 ≤ 140737488355328) : Calls Try.prog 9 #[.slice a l.length cap] w fun e w' => ∃ v, e = .returned v ∧ w'.ownsRow w.heap.size 50 26 v l.length (rcl (l.map mv6)) ∧ Keeps (fun _ => False) w w' := by
  have HL : Hid (RSL w a l) := hl
  clear hl
  generalize hN : l.length = N at *
  go_enter Try.func9, Try.ntmps9
  go_wp2_with fail
  go_loopw [3, 8] (fun lv iv Wr => ∃ (k : Nat), iv = .int .i64 (k : Int) ∧ k ≤ N ∧ Wr.ownsRow w.heap.size 50 26 lv k (rcl ((l.take k).map mv6)) ∧ Keeps (fun _ => False) w Wr) (fun _ iv _ => N - (intOf iv).toNat)
  case atStart => exact ⟨0, rfl, Nat.zero_le _, World.ownsRow_nil _ _ _ _, Keeps.refl _ _⟩
  case round =>
    obtain ⟨k, rfl, hk, hO, kr⟩ := hrel
    by_cases hlt : k < N
    · have l1 : decide ((k : Int) < (N : Int)) = true := decide_eq_true (by omega)
      have l2 : (k : Int) < (N : Int) := by omega
      have l4 : decide (k < N) = true := decide_eq_true hlt
      obtain ⟨b, off, rfl, hc⟩ := HL.out k (by omega)
      have hR := run_rwAt (W := wr) (fun j v e => kr.cell (hc j v e) (fun e => e))
      have HTK : Hid (rcl ((l.take (k + 1)).map mv6) = rcl ((l.take k).map mv6) ++ (mv6 (l.getD k rw0)).cells) := by
        show _ = _
        rw [List.take_add_one, List.getElem?_eq_getElem (by omega : k < l.length), List.map_append]
        have e : l.getD k rw0 = l[k]'(by omega) := by rw [List.getD_eq_getElem?_getD, List.getElem?_eq_getElem (by omega : k < l.length)]; rfl
        rw [e]
        exact rcl_app1 _ _
      clear hc
      generalize l.getD k rw0 = r at *
      generalize rcl ((l.take k).map mv6) = XS at *
      obtain ⟨W4, hW4⟩ : ∃ W4, W4 = wr.alloc (.cells rw0.cells.toArray 50) := ⟨_, rfl⟩
      have k4 : Keeps (fun _ => False) wr W4 := by rw [hW4]; exact (Keeps.refl _ wr).alloc _
      have hU4 : CL W4 wr.heap.size rw0.cells := by rw [hW4]; exact CL.made wr rw0.cells _
      have HW4 : Hid (W4 = wr.alloc (.cells rw0.cells.toArray 50)) := hW4
      have hOC := all_oneCell_rw r
      clear hW4
      unfold rw0 Rw.cells at HW4
      dsimp only at HW4
      obtain ⟨al, cl, el, -⟩ := own_slice hO
      subst el
      have HAP : Hid (∀ W, Keeps (fun _ => False) wr W → ∃ a' c' W', (Builtin.append_ #[23, 23] 23 #[.slice al k cl, .slice (some ⟨W.heap.size, 0, none⟩) 1 1]).run Try.prog (W.alloc (.cells (mv6 r).cells.toArray 50)) = .ok (.slice a' (k + 1) c') W' ∧ W'.ownsRow w.heap.size 50 26 (.slice a' (k + 1) c') (k + 1) (XS ++ (mv6 r).cells) ∧ Keeps (fun i => w.heap.size ≤ i) W W') := fun W kW => by
        have hz := kW.size
        have hz2 := kr.size
        obtain ⟨v', W', q1, q2, q3, -⟩ := append_sz uRows iRowM rfl (by decide) (kW.owns hO (fun _ _ e => e)) (by omega) (by decide) (by omega) (mv6 r).cells rfl (fun u hu => by
          have := all_oneCell_rw (mv6 r)
          rw [Array.all_eq_true'] at this
          exact this u (by simpa using hu))
        obtain ⟨a', c', ev, -⟩ := own_slice q2
        subst ev
        exact ⟨a', c', W', q1, q2, q3.mono (fun i _ e => owns_baseT hO i e)⟩
      have hno6 : ∀ x : Int, x = x := fun _ => rfl
      clear hno6
      by_cases h1 : 0 ≤ r.no
      · by_cases h2 : r.kind = 1
        · by_cases h3 : r.thread = 0
          · have d1 : decide (0 ≤ r.no) = true := by simp [h1]
            have d2 : (r.kind == 1) = true := by simp [h2]
            have d3 : (r.thread == 0) = true := by simp [h3]
            have HM6 : Hid (mv6 r = { r with step := wrap64 (r.step + 6), no := wrap64 (r.no + 1), seen := wrap64 (r.seen + 1), job := wrap64 (r.job + 1) }) := by
              show _ = _
              unfold mv6
              rw [if_pos h1, if_pos h2, if_pos h3]
            have HI9 : Hid (∀ W, CL W wr.heap.size ({ r with step := wrap64 (r.step + 6), no := wrap64 (r.no + 1), seen := wrap64 (r.seen + 1), job := wrap64 (r.job + 1) } : Rw).cells → CL W wr.heap.size (mv6 r).cells) := fun W h => by rw [HM6.out]; exact h
            clear h1 h2 h3
            go_wp2_with (first | (refine wpList_load_run rfl 50 _ rfl ⟨b, off + k * 26, none⟩ rfl _ hR ?_; clear hR) | (rw [← HW4.out]; clear HW4; refine wpList_store_cl rfl 50 _ _ rfl wr.heap.size 0 26 _ rfl rfl rfl hU4 (by show 26 ≤ 26; decide) iRw hOC ?_; intro w5 hc5 k5 hsz5; clear hsz5; have hI5 : CL w5 wr.heap.size r.cells := hc5; clear hc5; have K45 : Keeps (fun _ => False) wr w5 := k4.trans' k5 (fun _ _ e => e) (fun i hi e => (by have e : i = wr.heap.size := e; omega)); have c0 := hI5.c 0 _ rfl; have c1 := hI5.c 1 _ rfl; have c2 := hI5.c 2 _ rfl; have c4 := hI5.c 4 _ rfl; have c5 := hI5.c 5 _ rfl; have c11 := hI5.c 11 _ rfl) | (refine wpList_store_c1 rfl rfl 3 (.inl rfl) _ _ rfl wr.heap.size 0 rfl _ rfl hI5 (by show 0 < 26; decide) ?_; clear hI5 c0 c1 c2 c4 c5 c11; intro w6 hI5 k6; replace K45 := K45.trans' k6 (U := fun _ => False) (fun _ _ e => e) (fun i hi e => (by have e : i = wr.heap.size := e; omega)); clear k6; have c0 := hI5.c 0 _ rfl; have c1 := hI5.c 1 _ rfl; have c2 := hI5.c 2 _ rfl; have c4 := hI5.c 4 _ rfl; have c5 := hI5.c 5 _ rfl; have c11 := hI5.c 11 _ rfl) | (refine wpList_store_c1 rfl rfl 3 (.inl rfl) _ _ rfl wr.heap.size 4 rfl _ rfl hI5 (by show 4 < 26; decide) ?_; clear hI5 c0 c1 c2 c4 c5 c11; intro w6 hI5 k6; replace K45 := K45.trans' k6 (U := fun _ => False) (fun _ _ e => e) (fun i hi e => (by have e : i = wr.heap.size := e; omega)); clear k6; have c0 := hI5.c 0 _ rfl; have c1 := hI5.c 1 _ rfl; have c2 := hI5.c 2 _ rfl; have c4 := hI5.c 4 _ rfl; have c5 := hI5.c 5 _ rfl; have c11 := hI5.c 11 _ rfl) | (refine wpList_store_c1 rfl rfl 2 (.inr rfl) _ _ rfl wr.heap.size 11 rfl _ rfl hI5 (by show 11 < 26; decide) ?_; clear hI5 c0 c1 c2 c4 c5 c11; intro w6 hI5 k6; replace K45 := K45.trans' k6 (U := fun _ => False) (fun _ _ e => e) (fun i hi e => (by have e : i = wr.heap.size := e; omega)); clear k6; have c0 := hI5.c 0 _ rfl; have c1 := hI5.c 1 _ rfl; have c2 := hI5.c 2 _ rfl; have c4 := hI5.c 4 _ rfl; have c5 := hI5.c 5 _ rfl; have c11 := hI5.c 11 _ rfl) | (refine wpList_store_c1 rfl rfl 3 (.inl rfl) _ _ rfl wr.heap.size 2 rfl _ rfl hI5 (by show 2 < 26; decide) ?_; clear hI5 c0 c1 c2 c4 c5 c11; intro w6 hI5 k6; replace K45 := K45.trans' k6 (U := fun _ => False) (fun _ _ e => e) (fun i hi e => (by have e : i = wr.heap.size := e; omega)); clear k6; have c0 := hI5.c 0 _ rfl; have c1 := hI5.c 1 _ rfl; have c2 := hI5.c 2 _ rfl; have c4 := hI5.c 4 _ rfl; have c5 := hI5.c 5 _ rfl; have c11 := hI5.c 11 _ rfl) | (refine wpList_stop 38 rfl ?_; unfold Hid; refine wpList_load_run rfl 50 _ rfl ⟨wr.heap.size, 0, none⟩ rfl _ (run_rw (HI9.out _ hI5)) ?_; (try simp only [Act.put, List.setIfInBounds_toArray, List.set_cons_zero, List.set_cons_succ]); obtain ⟨a', c', W', hr', hO9, k9⟩ := HAP.out _ K45; clear HAP; refine wpList_buildRow rfl _ rfl (mv6 r).cells.toArray rfl rfl ?_; (try simp only [Act.put, List.setIfInBounds_toArray, List.set_cons_zero, List.set_cons_succ])) | (at_builtin; refine wpList_append_t rfl _ _ _ rfl _ _ _ W' rfl rfl hr' ?_; clear hr'))
            have K9 : Keeps (fun _ => False) w W' := (kr.trans K45).trans' k9 (fun _ _ e => e) (fun i hi e => by have e : w.heap.size ≤ i := e; omega)
            go_roundw
            case rel => exact ⟨k + 1, by go_num, by omega, by rw [HTK.out]; exact hO9, K9⟩
            case measure => simp [intOf]; omega
          · have d1 : decide (0 ≤ r.no) = true := by simp [h1]
            have d2 : (r.kind == 1) = true := by simp [h2]
            have d3 : (r.thread == 0) = false := by simp [h3]
            have HM6 : Hid (mv6 r = { r with step := wrap64 (r.step + 6), no := wrap64 (r.no + 1), seen := wrap64 (r.seen + 1) }) := by
              show _ = _
              unfold mv6
              rw [if_pos h1, if_pos h2, if_neg h3]
            have HI9 : Hid (∀ W, CL W wr.heap.size ({ r with step := wrap64 (r.step + 6), no := wrap64 (r.no + 1), seen := wrap64 (r.seen + 1) } : Rw).cells → CL W wr.heap.size (mv6 r).cells) := fun W h => by rw [HM6.out]; exact h
            clear h1 h2 h3
            go_wp2_with (first | (refine wpList_load_run rfl 50 _ rfl ⟨b, off + k * 26, none⟩ rfl _ hR ?_; clear hR) | (rw [← HW4.out]; clear HW4; refine wpList_store_cl rfl 50 _ _ rfl wr.heap.size 0 26 _ rfl rfl rfl hU4 (by show 26 ≤ 26; decide) iRw hOC ?_; intro w5 hc5 k5 hsz5; clear hsz5; have hI5 : CL w5 wr.heap.size r.cells := hc5; clear hc5; have K45 : Keeps (fun _ => False) wr w5 := k4.trans' k5 (fun _ _ e => e) (fun i hi e => (by have e : i = wr.heap.size := e; omega)); have c0 := hI5.c 0 _ rfl; have c1 := hI5.c 1 _ rfl; have c2 := hI5.c 2 _ rfl; have c4 := hI5.c 4 _ rfl; have c5 := hI5.c 5 _ rfl; have c11 := hI5.c 11 _ rfl) | (refine wpList_store_c1 rfl rfl 3 (.inl rfl) _ _ rfl wr.heap.size 0 rfl _ rfl hI5 (by show 0 < 26; decide) ?_; clear hI5 c0 c1 c2 c4 c5 c11; intro w6 hI5 k6; replace K45 := K45.trans' k6 (U := fun _ => False) (fun _ _ e => e) (fun i hi e => (by have e : i = wr.heap.size := e; omega)); clear k6; have c0 := hI5.c 0 _ rfl; have c1 := hI5.c 1 _ rfl; have c2 := hI5.c 2 _ rfl; have c4 := hI5.c 4 _ rfl; have c5 := hI5.c 5 _ rfl; have c11 := hI5.c 11 _ rfl) | (refine wpList_store_c1 rfl rfl 3 (.inl rfl) _ _ rfl wr.heap.size 4 rfl _ rfl hI5 (by show 4 < 26; decide) ?_; clear hI5 c0 c1 c2 c4 c5 c11; intro w6 hI5 k6; replace K45 := K45.trans' k6 (U := fun _ => False) (fun _ _ e => e) (fun i hi e => (by have e : i = wr.heap.size := e; omega)); clear k6; have c0 := hI5.c 0 _ rfl; have c1 := hI5.c 1 _ rfl; have c2 := hI5.c 2 _ rfl; have c4 := hI5.c 4 _ rfl; have c5 := hI5.c 5 _ rfl; have c11 := hI5.c 11 _ rfl) | (refine wpList_store_c1 rfl rfl 2 (.inr rfl) _ _ rfl wr.heap.size 11 rfl _ rfl hI5 (by show 11 < 26; decide) ?_; clear hI5 c0 c1 c2 c4 c5 c11; intro w6 hI5 k6; replace K45 := K45.trans' k6 (U := fun _ => False) (fun _ _ e => e) (fun i hi e => (by have e : i = wr.heap.size := e; omega)); clear k6; have c0 := hI5.c 0 _ rfl; have c1 := hI5.c 1 _ rfl; have c2 := hI5.c 2 _ rfl; have c4 := hI5.c 4 _ rfl; have c5 := hI5.c 5 _ rfl; have c11 := hI5.c 11 _ rfl) | (refine wpList_store_c1 rfl rfl 3 (.inl rfl) _ _ rfl wr.heap.size 2 rfl _ rfl hI5 (by show 2 < 26; decide) ?_; clear hI5 c0 c1 c2 c4 c5 c11; intro w6 hI5 k6; replace K45 := K45.trans' k6 (U := fun _ => False) (fun _ _ e => e) (fun i hi e => (by have e : i = wr.heap.size := e; omega)); clear k6; have c0 := hI5.c 0 _ rfl; have c1 := hI5.c 1 _ rfl; have c2 := hI5.c 2 _ rfl; have c4 := hI5.c 4 _ rfl; have c5 := hI5.c 5 _ rfl; have c11 := hI5.c 11 _ rfl) | (refine wpList_stop 38 rfl ?_; unfold Hid; refine wpList_load_run rfl 50 _ rfl ⟨wr.heap.size, 0, none⟩ rfl _ (run_rw (HI9.out _ hI5)) ?_; (try simp only [Act.put, List.setIfInBounds_toArray, List.set_cons_zero, List.set_cons_succ]); obtain ⟨a', c', W', hr', hO9, k9⟩ := HAP.out _ K45; clear HAP; refine wpList_buildRow rfl _ rfl (mv6 r).cells.toArray rfl rfl ?_; (try simp only [Act.put, List.setIfInBounds_toArray, List.set_cons_zero, List.set_cons_succ])) | (at_builtin; refine wpList_append_t rfl _ _ _ rfl _ _ _ W' rfl rfl hr' ?_; clear hr'))
            have K9 : Keeps (fun _ => False) w W' := (kr.trans K45).trans' k9 (fun _ _ e => e) (fun i hi e => by have e : w.heap.size ≤ i := e; omega)
            go_roundw
            case rel => exact ⟨k + 1, by go_num, by omega, by rw [HTK.out]; exact hO9, K9⟩
            case measure => simp [intOf]; omega
        · by_cases h3 : r.thread = 0
          · have d1 : decide (0 ≤ r.no) = true := by simp [h1]
            have d2 : (r.kind == 1) = false := by simp [h2]
            have d3 : (r.thread == 0) = true := by simp [h3]
            have HM6 : Hid (mv6 r = { r with step := wrap64 (r.step + 6), no := wrap64 (r.no + 1), job := wrap64 (r.job + 1) }) := by
              show _ = _
              unfold mv6
              rw [if_pos h1, if_neg h2, if_pos h3]
            have HI9 : Hid (∀ W, CL W wr.heap.size ({ r with step := wrap64 (r.step + 6), no := wrap64 (r.no + 1), job := wrap64 (r.job + 1) } : Rw).cells → CL W wr.heap.size (mv6 r).cells) := fun W h => by rw [HM6.out]; exact h
            clear h1 h2 h3
            go_wp2_with (first | (refine wpList_load_run rfl 50 _ rfl ⟨b, off + k * 26, none⟩ rfl _ hR ?_; clear hR) | (rw [← HW4.out]; clear HW4; refine wpList_store_cl rfl 50 _ _ rfl wr.heap.size 0 26 _ rfl rfl rfl hU4 (by show 26 ≤ 26; decide) iRw hOC ?_; intro w5 hc5 k5 hsz5; clear hsz5; have hI5 : CL w5 wr.heap.size r.cells := hc5; clear hc5; have K45 : Keeps (fun _ => False) wr w5 := k4.trans' k5 (fun _ _ e => e) (fun i hi e => (by have e : i = wr.heap.size := e; omega)); have c0 := hI5.c 0 _ rfl; have c1 := hI5.c 1 _ rfl; have c2 := hI5.c 2 _ rfl; have c4 := hI5.c 4 _ rfl; have c5 := hI5.c 5 _ rfl; have c11 := hI5.c 11 _ rfl) | (refine wpList_store_c1 rfl rfl 3 (.inl rfl) _ _ rfl wr.heap.size 0 rfl _ rfl hI5 (by show 0 < 26; decide) ?_; clear hI5 c0 c1 c2 c4 c5 c11; intro w6 hI5 k6; replace K45 := K45.trans' k6 (U := fun _ => False) (fun _ _ e => e) (fun i hi e => (by have e : i = wr.heap.size := e; omega)); clear k6; have c0 := hI5.c 0 _ rfl; have c1 := hI5.c 1 _ rfl; have c2 := hI5.c 2 _ rfl; have c4 := hI5.c 4 _ rfl; have c5 := hI5.c 5 _ rfl; have c11 := hI5.c 11 _ rfl) | (refine wpList_store_c1 rfl rfl 3 (.inl rfl) _ _ rfl wr.heap.size 4 rfl _ rfl hI5 (by show 4 < 26; decide) ?_; clear hI5 c0 c1 c2 c4 c5 c11; intro w6 hI5 k6; replace K45 := K45.trans' k6 (U := fun _ => False) (fun _ _ e => e) (fun i hi e => (by have e : i = wr.heap.size := e; omega)); clear k6; have c0 := hI5.c 0 _ rfl; have c1 := hI5.c 1 _ rfl; have c2 := hI5.c 2 _ rfl; have c4 := hI5.c 4 _ rfl; have c5 := hI5.c 5 _ rfl; have c11 := hI5.c 11 _ rfl) | (refine wpList_store_c1 rfl rfl 2 (.inr rfl) _ _ rfl wr.heap.size 11 rfl _ rfl hI5 (by show 11 < 26; decide) ?_; clear hI5 c0 c1 c2 c4 c5 c11; intro w6 hI5 k6; replace K45 := K45.trans' k6 (U := fun _ => False) (fun _ _ e => e) (fun i hi e => (by have e : i = wr.heap.size := e; omega)); clear k6; have c0 := hI5.c 0 _ rfl; have c1 := hI5.c 1 _ rfl; have c2 := hI5.c 2 _ rfl; have c4 := hI5.c 4 _ rfl; have c5 := hI5.c 5 _ rfl; have c11 := hI5.c 11 _ rfl) | (refine wpList_store_c1 rfl rfl 3 (.inl rfl) _ _ rfl wr.heap.size 2 rfl _ rfl hI5 (by show 2 < 26; decide) ?_; clear hI5 c0 c1 c2 c4 c5 c11; intro w6 hI5 k6; replace K45 := K45.trans' k6 (U := fun _ => False) (fun _ _ e => e) (fun i hi e => (by have e : i = wr.heap.size := e; omega)); clear k6; have c0 := hI5.c 0 _ rfl; have c1 := hI5.c 1 _ rfl; have c2 := hI5.c 2 _ rfl; have c4 := hI5.c 4 _ rfl; have c5 := hI5.c 5 _ rfl; have c11 := hI5.c 11 _ rfl) | (refine wpList_stop 38 rfl ?_; unfold Hid; refine wpList_load_run rfl 50 _ rfl ⟨wr.heap.size, 0, none⟩ rfl _ (run_rw (HI9.out _ hI5)) ?_; (try simp only [Act.put, List.setIfInBounds_toArray, List.set_cons_zero, List.set_cons_succ]); obtain ⟨a', c', W', hr', hO9, k9⟩ := HAP.out _ K45; clear HAP; refine wpList_buildRow rfl _ rfl (mv6 r).cells.toArray rfl rfl ?_; (try simp only [Act.put, List.setIfInBounds_toArray, List.set_cons_zero, List.set_cons_succ])) | (at_builtin; refine wpList_append_t rfl _ _ _ rfl _ _ _ W' rfl rfl hr' ?_; clear hr'))
            have K9 : Keeps (fun _ => False) w W' := (kr.trans K45).trans' k9 (fun _ _ e => e) (fun i hi e => by have e : w.heap.size ≤ i := e; omega)
            go_roundw
            case rel => exact ⟨k + 1, by go_num, by omega, by rw [HTK.out]; exact hO9, K9⟩
            case measure => simp [intOf]; omega
          · have d1 : decide (0 ≤ r.no) = true := by simp [h1]
            have d2 : (r.kind == 1) = false := by simp [h2]
            have d3 : (r.thread == 0) = false := by simp [h3]
            have HM6 : Hid (mv6 r = { r with step := wrap64 (r.step + 6), no := wrap64 (r.no + 1) }) := by
              show _ = _
              unfold mv6
              rw [if_pos h1, if_neg h2, if_neg h3]
            have HI9 : Hid (∀ W, CL W wr.heap.size ({ r with step := wrap64 (r.step + 6), no := wrap64 (r.no + 1) } : Rw).cells → CL W wr.heap.size (mv6 r).cells) := fun W h => by rw [HM6.out]; exact h
            clear h1 h2 h3
            go_wp2_with (first | (refine wpList_load_run rfl 50 _ rfl ⟨b, off + k * 26, none⟩ rfl _ hR ?_; clear hR) | (rw [← HW4.out]; clear HW4; refine wpList_store_cl rfl 50 _ _ rfl wr.heap.size 0 26 _ rfl rfl rfl hU4 (by show 26 ≤ 26; decide) iRw hOC ?_; intro w5 hc5 k5 hsz5; clear hsz5; have hI5 : CL w5 wr.heap.size r.cells := hc5; clear hc5; have K45 : Keeps (fun _ => False) wr w5 := k4.trans' k5 (fun _ _ e => e) (fun i hi e => (by have e : i = wr.heap.size := e; omega)); have c0 := hI5.c 0 _ rfl; have c1 := hI5.c 1 _ rfl; have c2 := hI5.c 2 _ rfl; have c4 := hI5.c 4 _ rfl; have c5 := hI5.c 5 _ rfl; have c11 := hI5.c 11 _ rfl) | (refine wpList_store_c1 rfl rfl 3 (.inl rfl) _ _ rfl wr.heap.size 0 rfl _ rfl hI5 (by show 0 < 26; decide) ?_; clear hI5 c0 c1 c2 c4 c5 c11; intro w6 hI5 k6; replace K45 := K45.trans' k6 (U := fun _ => False) (fun _ _ e => e) (fun i hi e => (by have e : i = wr.heap.size := e; omega)); clear k6; have c0 := hI5.c 0 _ rfl; have c1 := hI5.c 1 _ rfl; have c2 := hI5.c 2 _ rfl; have c4 := hI5.c 4 _ rfl; have c5 := hI5.c 5 _ rfl; have c11 := hI5.c 11 _ rfl) | (refine wpList_store_c1 rfl rfl 3 (.inl rfl) _ _ rfl wr.heap.size 4 rfl _ rfl hI5 (by show 4 < 26; decide) ?_; clear hI5 c0 c1 c2 c4 c5 c11; intro w6 hI5 k6; replace K45 := K45.trans' k6 (U := fun _ => False) (fun _ _ e => e) (fun i hi e => (by have e : i = wr.heap.size := e; omega)); clear k6; have c0 := hI5.c 0 _ rfl; have c1 := hI5.c 1 _ rfl; have c2 := hI5.c 2 _ rfl; have c4 := hI5.c 4 _ rfl; have c5 := hI5.c 5 _ rfl; have c11 := hI5.c 11 _ rfl) | (refine wpList_store_c1 rfl rfl 2 (.inr rfl) _ _ rfl wr.heap.size 11 rfl _ rfl hI5 (by show 11 < 26; decide) ?_; clear hI5 c0 c1 c2 c4 c5 c11; intro w6 hI5 k6; replace K45 := K45.trans' k6 (U := fun _ => False) (fun _ _ e => e) (fun i hi e => (by have e : i = wr.heap.size := e; omega)); clear k6; have c0 := hI5.c 0 _ rfl; have c1 := hI5.c 1 _ rfl; have c2 := hI5.c 2 _ rfl; have c4 := hI5.c 4 _ rfl; have c5 := hI5.c 5 _ rfl; have c11 := hI5.c 11 _ rfl) | (refine wpList_store_c1 rfl rfl 3 (.inl rfl) _ _ rfl wr.heap.size 2 rfl _ rfl hI5 (by show 2 < 26; decide) ?_; clear hI5 c0 c1 c2 c4 c5 c11; intro w6 hI5 k6; replace K45 := K45.trans' k6 (U := fun _ => False) (fun _ _ e => e) (fun i hi e => (by have e : i = wr.heap.size := e; omega)); clear k6; have c0 := hI5.c 0 _ rfl; have c1 := hI5.c 1 _ rfl; have c2 := hI5.c 2 _ rfl; have c4 := hI5.c 4 _ rfl; have c5 := hI5.c 5 _ rfl; have c11 := hI5.c 11 _ rfl) | (refine wpList_stop 38 rfl ?_; unfold Hid; refine wpList_load_run rfl 50 _ rfl ⟨wr.heap.size, 0, none⟩ rfl _ (run_rw (HI9.out _ hI5)) ?_; (try simp only [Act.put, List.setIfInBounds_toArray, List.set_cons_zero, List.set_cons_succ]); obtain ⟨a', c', W', hr', hO9, k9⟩ := HAP.out _ K45; clear HAP; refine wpList_buildRow rfl _ rfl (mv6 r).cells.toArray rfl rfl ?_; (try simp only [Act.put, List.setIfInBounds_toArray, List.set_cons_zero, List.set_cons_succ])) | (at_builtin; refine wpList_append_t rfl _ _ _ rfl _ _ _ W' rfl rfl hr' ?_; clear hr'))
            have K9 : Keeps (fun _ => False) w W' := (kr.trans K45).trans' k9 (fun _ _ e => e) (fun i hi e => by have e : w.heap.size ≤ i := e; omega)
            go_roundw
            case rel => exact ⟨k + 1, by go_num, by omega, by rw [HTK.out]; exact hO9, K9⟩
            case measure => simp [intOf]; omega
      · by_cases h2 : r.kind = 1
        · by_cases h3 : r.thread = 0
          · have d1 : decide (0 ≤ r.no) = false := by simp [h1]
            have d2 : (r.kind == 1) = true := by simp [h2]
            have d3 : (r.thread == 0) = true := by simp [h3]
            have HM6 : Hid (mv6 r = { r with step := wrap64 (r.step + 6), seen := wrap64 (r.seen + 1), job := wrap64 (r.job + 1) }) := by
              show _ = _
              unfold mv6
              rw [if_neg h1, if_pos h2, if_pos h3]
            have HI9 : Hid (∀ W, CL W wr.heap.size ({ r with step := wrap64 (r.step + 6), seen := wrap64 (r.seen + 1), job := wrap64 (r.job + 1) } : Rw).cells → CL W wr.heap.size (mv6 r).cells) := fun W h => by rw [HM6.out]; exact h
            clear h1 h2 h3
            go_wp2_with (first | (refine wpList_load_run rfl 50 _ rfl ⟨b, off + k * 26, none⟩ rfl _ hR ?_; clear hR) | (rw [← HW4.out]; clear HW4; refine wpList_store_cl rfl 50 _ _ rfl wr.heap.size 0 26 _ rfl rfl rfl hU4 (by show 26 ≤ 26; decide) iRw hOC ?_; intro w5 hc5 k5 hsz5; clear hsz5; have hI5 : CL w5 wr.heap.size r.cells := hc5; clear hc5; have K45 : Keeps (fun _ => False) wr w5 := k4.trans' k5 (fun _ _ e => e) (fun i hi e => (by have e : i = wr.heap.size := e; omega)); have c0 := hI5.c 0 _ rfl; have c1 := hI5.c 1 _ rfl; have c2 := hI5.c 2 _ rfl; have c4 := hI5.c 4 _ rfl; have c5 := hI5.c 5 _ rfl; have c11 := hI5.c 11 _ rfl) | (refine wpList_store_c1 rfl rfl 3 (.inl rfl) _ _ rfl wr.heap.size 0 rfl _ rfl hI5 (by show 0 < 26; decide) ?_; clear hI5 c0 c1 c2 c4 c5 c11; intro w6 hI5 k6; replace K45 := K45.trans' k6 (U := fun _ => False) (fun _ _ e => e) (fun i hi e => (by have e : i = wr.heap.size := e; omega)); clear k6; have c0 := hI5.c 0 _ rfl; have c1 := hI5.c 1 _ rfl; have c2 := hI5.c 2 _ rfl; have c4 := hI5.c 4 _ rfl; have c5 := hI5.c 5 _ rfl; have c11 := hI5.c 11 _ rfl) | (refine wpList_store_c1 rfl rfl 3 (.inl rfl) _ _ rfl wr.heap.size 4 rfl _ rfl hI5 (by show 4 < 26; decide) ?_; clear hI5 c0 c1 c2 c4 c5 c11; intro w6 hI5 k6; replace K45 := K45.trans' k6 (U := fun _ => False) (fun _ _ e => e) (fun i hi e => (by have e : i = wr.heap.size := e; omega)); clear k6; have c0 := hI5.c 0 _ rfl; have c1 := hI5.c 1 _ rfl; have c2 := hI5.c 2 _ rfl; have c4 := hI5.c 4 _ rfl; have c5 := hI5.c 5 _ rfl; have c11 := hI5.c 11 _ rfl) | (refine wpList_store_c1 rfl rfl 2 (.inr rfl) _ _ rfl wr.heap.size 11 rfl _ rfl hI5 (by show 11 < 26; decide) ?_; clear hI5 c0 c1 c2 c4 c5 c11; intro w6 hI5 k6; replace K45 := K45.trans' k6 (U := fun _ => False) (fun _ _ e => e) (fun i hi e => (by have e : i = wr.heap.size := e; omega)); clear k6; have c0 := hI5.c 0 _ rfl; have c1 := hI5.c 1 _ rfl; have c2 := hI5.c 2 _ rfl; have c4 := hI5.c 4 _ rfl; have c5 := hI5.c 5 _ rfl; have c11 := hI5.c 11 _ rfl) | (refine wpList_store_c1 rfl rfl 3 (.inl rfl) _ _ rfl wr.heap.size 2 rfl _ rfl hI5 (by show 2 < 26; decide) ?_; clear hI5 c0 c1 c2 c4 c5 c11; intro w6 hI5 k6; replace K45 := K45.trans' k6 (U := fun _ => False) (fun _ _ e => e) (fun i hi e => (by have e : i = wr.heap.size := e; omega)); clear k6; have c0 := hI5.c 0 _ rfl; have c1 := hI5.c 1 _ rfl; have c2 := hI5.c 2 _ rfl; have c4 := hI5.c 4 _ rfl; have c5 := hI5.c 5 _ rfl; have c11 := hI5.c 11 _ rfl) | (refine wpList_stop 38 rfl ?_; unfold Hid; refine wpList_load_run rfl 50 _ rfl ⟨wr.heap.size, 0, none⟩ rfl _ (run_rw (HI9.out _ hI5)) ?_; (try simp only [Act.put, List.setIfInBounds_toArray, List.set_cons_zero, List.set_cons_succ]); obtain ⟨a', c', W', hr', hO9, k9⟩ := HAP.out _ K45; clear HAP; refine wpList_buildRow rfl _ rfl (mv6 r).cells.toArray rfl rfl ?_; (try simp only [Act.put, List.setIfInBounds_toArray, List.set_cons_zero, List.set_cons_succ])) | (at_builtin; refine wpList_append_t rfl _ _ _ rfl _ _ _ W' rfl rfl hr' ?_; clear hr'))
            have K9 : Keeps (fun _ => False) w W' := (kr.trans K45).trans' k9 (fun _ _ e => e) (fun i hi e => by have e : w.heap.size ≤ i := e; omega)
            go_roundw
            case rel => exact ⟨k + 1, by go_num, by omega, by rw [HTK.out]; exact hO9, K9⟩
            case measure => simp [intOf]; omega
          · have d1 : decide (0 ≤ r.no) = false := by simp [h1]
            have d2 : (r.kind == 1) = true := by simp [h2]
            have d3 : (r.thread == 0) = false := by simp [h3]
            have HM6 : Hid (mv6 r = { r with step := wrap64 (r.step + 6), seen := wrap64 (r.seen + 1) }) := by
              show _ = _
              unfold mv6
              rw [if_neg h1, if_pos h2, if_neg h3]
            have HI9 : Hid (∀ W, CL W wr.heap.size ({ r with step := wrap64 (r.step + 6), seen := wrap64 (r.seen + 1) } : Rw).cells → CL W wr.heap.size (mv6 r).cells) := fun W h => by rw [HM6.out]; exact h
            clear h1 h2 h3
            go_wp2_with (first | (refine wpList_load_run rfl 50 _ rfl ⟨b, off + k * 26, none⟩ rfl _ hR ?_; clear hR) | (rw [← HW4.out]; clear HW4; refine wpList_store_cl rfl 50 _ _ rfl wr.heap.size 0 26 _ rfl rfl rfl hU4 (by show 26 ≤ 26; decide) iRw hOC ?_; intro w5 hc5 k5 hsz5; clear hsz5; have hI5 : CL w5 wr.heap.size r.cells := hc5; clear hc5; have K45 : Keeps (fun _ => False) wr w5 := k4.trans' k5 (fun _ _ e => e) (fun i hi e => (by have e : i = wr.heap.size := e; omega)); have c0 := hI5.c 0 _ rfl; have c1 := hI5.c 1 _ rfl; have c2 := hI5.c 2 _ rfl; have c4 := hI5.c 4 _ rfl; have c5 := hI5.c 5 _ rfl; have c11 := hI5.c 11 _ rfl) | (refine wpList_store_c1 rfl rfl 3 (.inl rfl) _ _ rfl wr.heap.size 0 rfl _ rfl hI5 (by show 0 < 26; decide) ?_; clear hI5 c0 c1 c2 c4 c5 c11; intro w6 hI5 k6; replace K45 := K45.trans' k6 (U := fun _ => False) (fun _ _ e => e) (fun i hi e => (by have e : i = wr.heap.size := e; omega)); clear k6; have c0 := hI5.c 0 _ rfl; have c1 := hI5.c 1 _ rfl; have c2 := hI5.c 2 _ rfl; have c4 := hI5.c 4 _ rfl; have c5 := hI5.c 5 _ rfl; have c11 := hI5.c 11 _ rfl) | (refine wpList_store_c1 rfl rfl 3 (.inl rfl) _ _ rfl wr.heap.size 4 rfl _ rfl hI5 (by show 4 < 26; decide) ?_; clear hI5 c0 c1 c2 c4 c5 c11; intro w6 hI5 k6; replace K45 := K45.trans' k6 (U := fun _ => False) (fun _ _ e => e) (fun i hi e => (by have e : i = wr.heap.size := e; omega)); clear k6; have c0 := hI5.c 0 _ rfl; have c1 := hI5.c 1 _ rfl; have c2 := hI5.c 2 _ rfl; have c4 := hI5.c 4 _ rfl; have c5 := hI5.c 5 _ rfl; have c11 := hI5.c 11 _ rfl) | (refine wpList_store_c1 rfl rfl 2 (.inr rfl) _ _ rfl wr.heap.size 11 rfl _ rfl hI5 (by show 11 < 26; decide) ?_; clear hI5 c0 c1 c2 c4 c5 c11; intro w6 hI5 k6; replace K45 := K45.trans' k6 (U := fun _ => False) (fun _ _ e => e) (fun i hi e => (by have e : i = wr.heap.size := e; omega)); clear k6; have c0 := hI5.c 0 _ rfl; have c1 := hI5.c 1 _ rfl; have c2 := hI5.c 2 _ rfl; have c4 := hI5.c 4 _ rfl; have c5 := hI5.c 5 _ rfl; have c11 := hI5.c 11 _ rfl) | (refine wpList_store_c1 rfl rfl 3 (.inl rfl) _ _ rfl wr.heap.size 2 rfl _ rfl hI5 (by show 2 < 26; decide) ?_; clear hI5 c0 c1 c2 c4 c5 c11; intro w6 hI5 k6; replace K45 := K45.trans' k6 (U := fun _ => False) (fun _ _ e => e) (fun i hi e => (by have e : i = wr.heap.size := e; omega)); clear k6; have c0 := hI5.c 0 _ rfl; have c1 := hI5.c 1 _ rfl; have c2 := hI5.c 2 _ rfl; have c4 := hI5.c 4 _ rfl; have c5 := hI5.c 5 _ rfl; have c11 := hI5.c 11 _ rfl) | (refine wpList_stop 38 rfl ?_; unfold Hid; refine wpList_load_run rfl 50 _ rfl ⟨wr.heap.size, 0, none⟩ rfl _ (run_rw (HI9.out _ hI5)) ?_; (try simp only [Act.put, List.setIfInBounds_toArray, List.set_cons_zero, List.set_cons_succ]); obtain ⟨a', c', W', hr', hO9, k9⟩ := HAP.out _ K45; clear HAP; refine wpList_buildRow rfl _ rfl (mv6 r).cells.toArray rfl rfl ?_; (try simp only [Act.put, List.setIfInBounds_toArray, List.set_cons_zero, List.set_cons_succ])) | (at_builtin; refine wpList_append_t rfl _ _ _ rfl _ _ _ W' rfl rfl hr' ?_; clear hr'))
            have K9 : Keeps (fun _ => False) w W' := (kr.trans K45).trans' k9 (fun _ _ e => e) (fun i hi e => by have e : w.heap.size ≤ i := e; omega)
            go_roundw
            case rel => exact ⟨k + 1, by go_num, by omega, by rw [HTK.out]; exact hO9, K9⟩
            case measure => simp [intOf]; omega
        · by_cases h3 : r.thread = 0
          · have d1 : decide (0 ≤ r.no) = false := by simp [h1]
            have d2 : (r.kind == 1) = false := by simp [h2]
            have d3 : (r.thread == 0) = true := by simp [h3]
            have HM6 : Hid (mv6 r = { r with step := wrap64 (r.step + 6), job := wrap64 (r.job + 1) }) := by
              show _ = _
              unfold mv6
              rw [if_neg h1, if_neg h2, if_pos h3]
            have HI9 : Hid (∀ W, CL W wr.heap.size ({ r with step := wrap64 (r.step + 6), job := wrap64 (r.job + 1) } : Rw).cells → CL W wr.heap.size (mv6 r).cells) := fun W h => by rw [HM6.out]; exact h
            clear h1 h2 h3
            go_wp2_with (first | (refine wpList_load_run rfl 50 _ rfl ⟨b, off + k * 26, none⟩ rfl _ hR ?_; clear hR) | (rw [← HW4.out]; clear HW4; refine wpList_store_cl rfl 50 _ _ rfl wr.heap.size 0 26 _ rfl rfl rfl hU4 (by show 26 ≤ 26; decide) iRw hOC ?_; intro w5 hc5 k5 hsz5; clear hsz5; have hI5 : CL w5 wr.heap.size r.cells := hc5; clear hc5; have K45 : Keeps (fun _ => False) wr w5 := k4.trans' k5 (fun _ _ e => e) (fun i hi e => (by have e : i = wr.heap.size := e; omega)); have c0 := hI5.c 0 _ rfl; have c1 := hI5.c 1 _ rfl; have c2 := hI5.c 2 _ rfl; have c4 := hI5.c 4 _ rfl; have c5 := hI5.c 5 _ rfl; have c11 := hI5.c 11 _ rfl) | (refine wpList_store_c1 rfl rfl 3 (.inl rfl) _ _ rfl wr.heap.size 0 rfl _ rfl hI5 (by show 0 < 26; decide) ?_; clear hI5 c0 c1 c2 c4 c5 c11; intro w6 hI5 k6; replace K45 := K45.trans' k6 (U := fun _ => False) (fun _ _ e => e) (fun i hi e => (by have e : i = wr.heap.size := e; omega)); clear k6; have c0 := hI5.c 0 _ rfl; have c1 := hI5.c 1 _ rfl; have c2 := hI5.c 2 _ rfl; have c4 := hI5.c 4 _ rfl; have c5 := hI5.c 5 _ rfl; have c11 := hI5.c 11 _ rfl) | (refine wpList_store_c1 rfl rfl 3 (.inl rfl) _ _ rfl wr.heap.size 4 rfl _ rfl hI5 (by show 4 < 26; decide) ?_; clear hI5 c0 c1 c2 c4 c5 c11; intro w6 hI5 k6; replace K45 := K45.trans' k6 (U := fun _ => False) (fun _ _ e => e) (fun i hi e => (by have e : i = wr.heap.size := e; omega)); clear k6; have c0 := hI5.c 0 _ rfl; have c1 := hI5.c 1 _ rfl; have c2 := hI5.c 2 _ rfl; have c4 := hI5.c 4 _ rfl; have c5 := hI5.c 5 _ rfl; have c11 := hI5.c 11 _ rfl) | (refine wpList_store_c1 rfl rfl 2 (.inr rfl) _ _ rfl wr.heap.size 11 rfl _ rfl hI5 (by show 11 < 26; decide) ?_; clear hI5 c0 c1 c2 c4 c5 c11; intro w6 hI5 k6; replace K45 := K45.trans' k6 (U := fun _ => False) (fun _ _ e => e) (fun i hi e => (by have e : i = wr.heap.size := e; omega)); clear k6; have c0 := hI5.c 0 _ rfl; have c1 := hI5.c 1 _ rfl; have c2 := hI5.c 2 _ rfl; have c4 := hI5.c 4 _ rfl; have c5 := hI5.c 5 _ rfl; have c11 := hI5.c 11 _ rfl) | (refine wpList_store_c1 rfl rfl 3 (.inl rfl) _ _ rfl wr.heap.size 2 rfl _ rfl hI5 (by show 2 < 26; decide) ?_; clear hI5 c0 c1 c2 c4 c5 c11; intro w6 hI5 k6; replace K45 := K45.trans' k6 (U := fun _ => False) (fun _ _ e => e) (fun i hi e => (by have e : i = wr.heap.size := e; omega)); clear k6; have c0 := hI5.c 0 _ rfl; have c1 := hI5.c 1 _ rfl; have c2 := hI5.c 2 _ rfl; have c4 := hI5.c 4 _ rfl; have c5 := hI5.c 5 _ rfl; have c11 := hI5.c 11 _ rfl) | (refine wpList_stop 38 rfl ?_; unfold Hid; refine wpList_load_run rfl 50 _ rfl ⟨wr.heap.size, 0, none⟩ rfl _ (run_rw (HI9.out _ hI5)) ?_; (try simp only [Act.put, List.setIfInBounds_toArray, List.set_cons_zero, List.set_cons_succ]); obtain ⟨a', c', W', hr', hO9, k9⟩ := HAP.out _ K45; clear HAP; refine wpList_buildRow rfl _ rfl (mv6 r).cells.toArray rfl rfl ?_; (try simp only [Act.put, List.setIfInBounds_toArray, List.set_cons_zero, List.set_cons_succ])) | (at_builtin; refine wpList_append_t rfl _ _ _ rfl _ _ _ W' rfl rfl hr' ?_; clear hr'))
            have K9 : Keeps (fun _ => False) w W' := (kr.trans K45).trans' k9 (fun _ _ e => e) (fun i hi e => by have e : w.heap.size ≤ i := e; omega)
            go_roundw
            case rel => exact ⟨k + 1, by go_num, by omega, by rw [HTK.out]; exact hO9, K9⟩
            case measure => simp [intOf]; omega
          · have d1 : decide (0 ≤ r.no) = false := by simp [h1]
            have d2 : (r.kind == 1) = false := by simp [h2]
            have d3 : (r.thread == 0) = false := by simp [h3]
            have HM6 : Hid (mv6 r = { r with step := wrap64 (r.step + 6) }) := by
              show _ = _
              unfold mv6
              rw [if_neg h1, if_neg h2, if_neg h3]
            have HI9 : Hid (∀ W, CL W wr.heap.size ({ r with step := wrap64 (r.step + 6) } : Rw).cells → CL W wr.heap.size (mv6 r).cells) := fun W h => by rw [HM6.out]; exact h
            clear h1 h2 h3
            go_wp2_with (first | (refine wpList_load_run rfl 50 _ rfl ⟨b, off + k * 26, none⟩ rfl _ hR ?_; clear hR) | (rw [← HW4.out]; clear HW4; refine wpList_store_cl rfl 50 _ _ rfl wr.heap.size 0 26 _ rfl rfl rfl hU4 (by show 26 ≤ 26; decide) iRw hOC ?_; intro w5 hc5 k5 hsz5; clear hsz5; have hI5 : CL w5 wr.heap.size r.cells := hc5; clear hc5; have K45 : Keeps (fun _ => False) wr w5 := k4.trans' k5 (fun _ _ e => e) (fun i hi e => (by have e : i = wr.heap.size := e; omega)); have c0 := hI5.c 0 _ rfl; have c1 := hI5.c 1 _ rfl; have c2 := hI5.c 2 _ rfl; have c4 := hI5.c 4 _ rfl; have c5 := hI5.c 5 _ rfl; have c11 := hI5.c 11 _ rfl) | (refine wpList_store_c1 rfl rfl 3 (.inl rfl) _ _ rfl wr.heap.size 0 rfl _ rfl hI5 (by show 0 < 26; decide) ?_; clear hI5 c0 c1 c2 c4 c5 c11; intro w6 hI5 k6; replace K45 := K45.trans' k6 (U := fun _ => False) (fun _ _ e => e) (fun i hi e => (by have e : i = wr.heap.size := e; omega)); clear k6; have c0 := hI5.c 0 _ rfl; have c1 := hI5.c 1 _ rfl; have c2 := hI5.c 2 _ rfl; have c4 := hI5.c 4 _ rfl; have c5 := hI5.c 5 _ rfl; have c11 := hI5.c 11 _ rfl) | (refine wpList_store_c1 rfl rfl 3 (.inl rfl) _ _ rfl wr.heap.size 4 rfl _ rfl hI5 (by show 4 < 26; decide) ?_; clear hI5 c0 c1 c2 c4 c5 c11; intro w6 hI5 k6; replace K45 := K45.trans' k6 (U := fun _ => False) (fun _ _ e => e) (fun i hi e => (by have e : i = wr.heap.size := e; omega)); clear k6; have c0 := hI5.c 0 _ rfl; have c1 := hI5.c 1 _ rfl; have c2 := hI5.c 2 _ rfl; have c4 := hI5.c 4 _ rfl; have c5 := hI5.c 5 _ rfl; have c11 := hI5.c 11 _ rfl) | (refine wpList_store_c1 rfl rfl 2 (.inr rfl) _ _ rfl wr.heap.size 11 rfl _ rfl hI5 (by show 11 < 26; decide) ?_; clear hI5 c0 c1 c2 c4 c5 c11; intro w6 hI5 k6; replace K45 := K45.trans' k6 (U := fun _ => False) (fun _ _ e => e) (fun i hi e => (by have e : i = wr.heap.size := e; omega)); clear k6; have c0 := hI5.c 0 _ rfl; have c1 := hI5.c 1 _ rfl; have c2 := hI5.c 2 _ rfl; have c4 := hI5.c 4 _ rfl; have c5 := hI5.c 5 _ rfl; have c11 := hI5.c 11 _ rfl) | (refine wpList_store_c1 rfl rfl 3 (.inl rfl) _ _ rfl wr.heap.size 2 rfl _ rfl hI5 (by show 2 < 26; decide) ?_; clear hI5 c0 c1 c2 c4 c5 c11; intro w6 hI5 k6; replace K45 := K45.trans' k6 (U := fun _ => False) (fun _ _ e => e) (fun i hi e => (by have e : i = wr.heap.size := e; omega)); clear k6; have c0 := hI5.c 0 _ rfl; have c1 := hI5.c 1 _ rfl; have c2 := hI5.c 2 _ rfl; have c4 := hI5.c 4 _ rfl; have c5 := hI5.c 5 _ rfl; have c11 := hI5.c 11 _ rfl) | (refine wpList_stop 38 rfl ?_; unfold Hid; refine wpList_load_run rfl 50 _ rfl ⟨wr.heap.size, 0, none⟩ rfl _ (run_rw (HI9.out _ hI5)) ?_; (try simp only [Act.put, List.setIfInBounds_toArray, List.set_cons_zero, List.set_cons_succ]); obtain ⟨a', c', W', hr', hO9, k9⟩ := HAP.out _ K45; clear HAP; refine wpList_buildRow rfl _ rfl (mv6 r).cells.toArray rfl rfl ?_; (try simp only [Act.put, List.setIfInBounds_toArray, List.set_cons_zero, List.set_cons_succ])) | (at_builtin; refine wpList_append_t rfl _ _ _ rfl _ _ _ W' rfl rfl hr' ?_; clear hr'))
            have K9 : Keeps (fun _ => False) w W' := (kr.trans K45).trans' k9 (fun _ _ e => e) (fun i hi e => by have e : w.heap.size ≤ i := e; omega)
            go_roundw
            case rel => exact ⟨k + 1, by go_num, by omega, by rw [HTK.out]; exact hO9, K9⟩
            case measure => simp [intOf]; omega
    · have l1 : decide ((k : Int) < (N : Int)) = false := decide_eq_false (by omega)
      have l4 : decide (k < N) = false := decide_eq_false hlt
      obtain rfl : k = N := by omega
      rw [List.take_of_length_le (by omega)] at hO
      go_wp2_with fail
      go_ret
      exact ⟨_, rfl, hO, kr⟩
end Go.Proofs.Ytmnmphkkcabkiaa

