import Derived.Test.YtclednbclgkdaaaDoorLsC
import Derived.Test.YtclednbclgkdaaaDoorPhG
namespace Go.Proofs.YtclednbclgkdaaaDoor
open Go.RowKit Go.Deep Go.ChangeShapes Go.WideShapes Go.ChangeAt
attribute [local go_sem] Oper.semAt_some run_store_nf run_store_f
theorem rI : Tryd.prog.underlying 30 = some (.slice 42) := by kernel_rfl
theorem rI0 : (Tryd.prog.info? 42).map (fun i => (i.zero, i.size, i.bytes)) = some (some (.agg #[.int .i64 0, .int .i64 0, .bool false, .int .i64 0, .bool false, .int .i64 0, .bool false, .int .i64 0, .int .i64 0, .int .i64 0, .int .i64 0]), 11, 88) := by kernel_rfl
theorem rIi : ∃ i, Tryd.prog.info? 42 = some i ∧ i.zero = some (.agg #[.int .i64 0, .int .i64 0, .bool false, .int .i64 0, .bool false, .int .i64 0, .bool false, .int .i64 0, .int .i64 0, .int .i64 0, .int .i64 0]) ∧ i.size = 11 ∧ i.bytes = 88 := by
  have h := rI0
  cases hq : Tryd.prog.info? 42 with
  | none => rw [hq] at h; cases h
  | some i =>
    rw [hq] at h
    injection h with h
    injection h with h1 h2
    injection h2 with h2 h3
    exact ⟨i, rfl, h1, h2, h3⟩
theorem append_r {W : World} {base k : Nat} {v : Value} {qs : List Ins} (hown : W.ownsRow base 42 11 v k (icl qs)) (hb : base ≤ W.heap.size) (hk : (k + 1) * 88 ≤ 140737488363520) (q : Ins) :
    ∃ v' w', (Builtin.append_ #[30, 30] 30 #[v, .slice (some ⟨W.heap.size, 0, none⟩) 1 1]).run Tryd.prog (W.alloc (.cells #[.int .i64 q.code, .int .i64 q.dst, .bool q.oR, .int .i64 q.oN, .bool q.xR, .int .i64 q.xN, .bool q.yR, .int .i64 q.yN, .int .i64 q.op, .int .i64 q.rel, .int .i64 q.to] 42)) = .ok v' w' ∧ w'.ownsRow base 42 11 v' (k + 1) (icl (qs ++ [q])) ∧ Keeps (fun i => v.ownBlock = some i) W w' := by
  obtain ⟨i0, hi0, hz0, hz1, hz2⟩ := rIi
  obtain ⟨v', w', hr, ho, hg⟩ := run_append_more (P := Tryd.prog) (w := W.alloc (.cells q.cells.toArray 42)) base 30 30 42 i0 _ 11 88 rI hi0 hz0 hz1 hz2 rfl (by decide) (by decide) (by decide) v k (icl qs) (((Keeps.refl (fun _ => False) W).alloc _).owns hown (fun _ _ e => e)) ⟨W.heap.size, 0, none⟩ 1 q.cells rfl (fun j u hu => by
      rw [add_at]
      have := (CL.made W q.cells 42).c j u hu
      simpa using this) (fun u hu => by
      simp [Ins.cells] at hu
      rcases hu with rfl | rfl | rfl | rfl | rfl | rfl | rfl | rfl | rfl | rfl | rfl <;> rfl) (by omega) (Nat.le_trans hb (by simp))
  refine ⟨v', w', hr, ?_, ((Keeps.refl _ W).alloc _).grown hg (fun i _ e => e)⟩
  unfold icl
  rw [List.flatMap_append]
  simpa [icl] using ho
set_option maxHeartbeats 500000 in
set_option maxRecDepth 1000000 in
theorem shift_any {w : World} {a : Option Addr} {cap : Nat} {l : List Ins} (hT : PT w) (hNT : NT w) (hl : ISL w a l) (hlen : l.length * 88 ≤ 140737488355328) (kk : Int) (_ : I64 kk) : Calls Tryd.prog 6 #[.slice a l.length cap, .int .i64 kk] w fun e w' => e = .returned (.bool true) ∧ Below w.heap.size w w' := by
  have hFx := fixed_ok hT hNT
  obtain ⟨n, hn⟩ : ∃ n, l.length = n := ⟨_, rfl⟩
  rw [hn] at hlen ⊢
  by_cases hkk : 0 ≤ kk ∧ kk ≤ 70
  · obtain ⟨k, rfl⟩ : ∃ k : Nat, kk = (k : Int) := ⟨kk.toNat, by omega⟩
    have hk70 : k ≤ 70 := by omega
    have b1 : decide ((k : Int) < 0) = false := decide_eq_false (by omega)
    have b2 : decide ((70 : Int) < (k : Int)) = false := decide_eq_false (by omega)
    have b3 : decide (70 < k) = false := decide_eq_false (by omega)
    have hLT0 := hT.lt
    clear hT hNT hkk
    go_enter Tryd.func6, Tryd.ntmps6
    refine wp_seq_k (fun KK hKK => ?_)
    have hKH : Hid _ := hKK
    clear hKK
    go_wp2_with fail
    refine hKH.out _ _ ?_
    clear hKH KK
    refine wp_seq_k (fun KK hKK => ?_)
    have hKH : Hid _ := hKK
    clear hKK
    go_wp2_with fail
    refine hFx.mono ?_
    clear hFx
    rintro e w1 ⟨rfl, k0⟩
    go_wp2_with fail
    refine hKH.out _ _ ?_
    clear hKH KK
    have hl1 := hl.keep k0
    have hLT1 := hLT0.keep k0
    clear hl hLT0
    refine wp_seq_k (fun KK hKK => ?_)
    have hKH : Hid _ := hKK
    clear hKK
    go_wp2_with fail
    refine hKH.out _ _ ?_
    clear hKH KK
    refine wp_seq_k (fun KK hKK => ?_)
    have hKH : Hid _ := hKK
    clear hKK
    go_wp2_with fail
    go_loopw [5, 6] (fun v iv Wr => ∃ i : Nat, i ≤ k ∧ iv = .int .i64 (i : Int) ∧ Wr.ownsRow w1.heap.size 42 11 v i (icl ((List.range i).map pre1)) ∧ Keeps (fun _ => False) w1 Wr) (fun _ iv _ => k - (intOf iv).toNat)
    case atStart => exact ⟨0, Nat.zero_le _, rfl, World.ownsRow_nil _ _ _ _, Keeps.refl _ w1⟩
    case round =>
      obtain ⟨i, hi, rfl, hown, kW⟩ := hrel
      by_cases hlt : i < k
      · have hltI : decide ((i : Int) < (k : Int)) = true := decide_eq_true (by omega)
        have hltJ : (i : Int) < (k : Int) := by omega
        have hwk : IntKind.i64.wrap ((i : Int) + 1) = (i : Int) + 1 := by rw [IntKind.wrap_i64]; omega
        have HT1 : Hid ((List.range (i + 1)).map pre1 = (List.range i).map pre1 ++ [pre1 i]) := by
          show _ = _
          rw [List.range_succ, List.map_append]; rfl
        obtain ⟨v', w', hr, ho, kk⟩ := append_r hown kW.size (by omega) (pre1 i)
        have K' : Keeps (fun _ => False) w1 w' := kW.trans' kk (fun _ _ e => e) (fun i hi e => by have := owns_base hown i e; omega)
        dsimp only [pre1] at hr
        clear hown kk hl1
        go_wp2_with (at_builtin; refine wpList_append_run' rfl _ _ _ rfl _ _ _ w' rfl rfl hr ?_; clear hr)
        go_roundw
        case rel => exact ⟨i + 1, by omega, by go_num, by rw [HT1.out]; exact ho, K'⟩
        case measure => simp [intOf]; omega
      · have hltI : decide ((i : Int) < (k : Int)) = false := decide_eq_false (by omega)
        obtain rfl : i = k := by omega
        go_wp2_with fail
        refine hKH.out _ _ ?_
        refine wp_seq_k (fun KK hKK => ?_)
        have hKH : Hid _ := hKK
        clear hKK
        go_wp2_with fail
        go_loopw [5, 7] (fun v iv Wr => ∃ j : Nat, j ≤ n ∧ iv = .int .i64 (j : Int) ∧ Wr.ownsRow w1.heap.size 42 11 v (i + j) (icl ((List.range i).map pre1 ++ (l.take j).map (sh i))) ∧ Keeps (fun _ => False) w1 Wr ∧ Hid (∀ p, p < j → (l.getD p ins0).jmp = true → 0 ≤ (l.getD p ins0).to ∧ (l.getD p ins0).to ≤ (n : Int))) (fun _ iv _ => n - (intOf iv).toNat)
        case atStart => exact ⟨0, Nat.zero_le _, rfl, by simpa using hown, kW, fun p hp => absurd hp (Nat.not_lt_zero _)⟩
        case round =>
          clear hown kW
          obtain ⟨j, hj, rfl, hown, kW, hJ⟩ := hrel
          by_cases hlt : j < n
          · have hltI : decide ((j : Int) < (n : Int)) = true := decide_eq_true (by omega)
            have hltJ : (j : Int) < (n : Int) := by omega
            obtain ⟨b, off, rfl, hc⟩ := hl1 j (by omega)
            have hc' : ∀ t v, (l.getD j ins0).cells[t]? = some v → wr.cell? ⟨b, off + j * 11 + t, none⟩ = some v := fun t v e => kW.cell (hc t v e) (fun e => e)
            have hR1 := run_insAt (t := 42) hc' ⟨_, Tryd.underlying42⟩ iRn
            have HTk : Hid ((l.take (j + 1)).map (sh i) = (l.take j).map (sh i) ++ [sh i (l.getD j ins0)]) := by
              show _ = _
              rw [List.take_add_one, List.map_append, List.getD_eq_getElem?_getD, List.getElem?_eq_getElem (by omega)]; rfl
            have HJ1 : ((l.getD j ins0).jmp = true → 0 ≤ (l.getD j ins0).to ∧ (l.getD j ins0).to ≤ (n : Int)) → Hid (∀ p, p < j + 1 → (l.getD p ins0).jmp = true → 0 ≤ (l.getD p ins0).to ∧ (l.getD p ins0).to ≤ (n : Int)) := fun hq p hp => by
              by_cases e : p = j
              · subst e; exact hq
              · exact hJ.out p (by omega)
            clear hc hc'
            generalize l.getD j ins0 = q at *
            obtain ⟨cd, dst, oR, oN, xR, xN, yR, yN, op, rel, to⟩ := q
            obtain ⟨W4, hW4⟩ : ∃ W4, W4 = wr.alloc (.cells #[.int .i64 0, .int .i64 0, .bool false, .int .i64 0, .bool false, .int .i64 0, .bool false, .int .i64 0, .int .i64 0, .int .i64 0, .int .i64 0] 42) := ⟨_, rfl⟩
            have k4 : Keeps (fun _ => False) wr W4 := by rw [hW4]; exact (Keeps.refl _ wr).alloc _
            have hU4 : CL W4 wr.heap.size ins0.cells := by rw [hW4]; exact CL.made wr ins0.cells _
            have hA := all_oneCell_ins ⟨cd, dst, oR, oN, xR, xN, yR, yN, op, rel, to⟩
            have hwk : IntKind.i64.wrap ((j : Int) + 1) = (j : Int) + 1 := by rw [IntKind.wrap_i64]; omega
            by_cases hc7 : cd = 7
            · subst hc7
              by_cases ht : 0 ≤ to ∧ to ≤ (n : Int)
              · have HJ2 := HJ1 (fun _ => ht)
                have y1 : decide (to < 0) = false := decide_eq_false (by omega)
                have y2 : decide ((n : Int) < to) = false := decide_eq_false (by omega)
                have hwt : IntKind.i64.wrap (to + (i : Int)) = to + (i : Int) := by rw [IntKind.wrap_i64]; omega
                have e6 : sh i ⟨7, dst, oR, oN, xR, xN, yR, yN, op, rel, to⟩ = ⟨7, dst, oR, oN, xR, xN, yR, yN, op, rel, to + (i : Int)⟩ := if_pos rfl
                rw [e6] at HTk
                clear e6
                go_wp2_with (first | (refine wpList_load_run rfl 42 _ rfl ⟨b, off + j * 11, none⟩ rfl _ hR1 ?_; clear hR1) | (rw [← hW4]; clear hW4; refine wpList_store_cl rfl 42 _ _ rfl wr.heap.size 0 11 _ rfl rfl rfl hU4 (by show 11 ≤ 11; decide) iRn hA ?_; intro w5 hc5 k5 hsz5; clear hsz5; have hI5 : CL w5 wr.heap.size (⟨7, dst, oR, oN, xR, xN, yR, yN, op, rel, to⟩ : Ins).cells := hc5; have K45 : Keeps (fun _ => False) wr w5 := k4.trans' k5 (fun _ _ e => e) (fun t hi e => by have e : t = wr.heap.size := e; omega); have c0 := hI5.c 0 _ rfl; have c10 := hI5.c 10 _ rfl; have z10 := hI5.z 10 (by show 10 < 11; decide); have C6 : CL (w5.setCell ⟨wr.heap.size, 10, none⟩ (.int .i64 (to + (i : Int)))) wr.heap.size (⟨7, dst, oR, oN, xR, xN, yR, yN, op, rel, to + (i : Int)⟩ : Ins).cells := hI5.set (o := 10) (by show 10 < 11; decide) _; have k6 : Keeps (fun _ => False) wr (w5.setCell ⟨wr.heap.size, 10, none⟩ (.int .i64 (to + (i : Int)))) := K45.setCell (fun h => absurd h (Nat.lt_irrefl _)) _; obtain ⟨w6, hw6⟩ : ∃ w6, w6 = w5.setCell ⟨wr.heap.size, 10, none⟩ (.int .i64 (to + (i : Int))) := ⟨_, rfl⟩; rw [← hw6] at C6 k6; have H6 : Hid (w6 = _) := hw6; clear hw6; have hown6 := k6.owns hown (fun _ _ e => e); have hR6 : (loadVar 42 ⟨wr.heap.size, 0, none⟩).run Tryd.prog w6 = .ok (.agg #[.int .i64 7, .int .i64 dst, .bool oR, .int .i64 oN, .bool xR, .int .i64 xN, .bool yR, .int .i64 yN, .int .i64 op, .int .i64 rel, .int .i64 (to + (i : Int))]) w6 := run_insAt (t := 42) (b := wr.heap.size) (o := 0) (q := ⟨7, dst, oR, oN, xR, xN, yR, yN, op, rel, to + (i : Int)⟩) (fun j v e => by have := C6.c j v e; rwa [Nat.zero_add]) ⟨_, Tryd.underlying42⟩ iRn; obtain ⟨v', w', hr, ho, kk⟩ := append_r hown6 (kW.trans k6).size (by omega) ⟨7, dst, oR, oN, xR, xN, yR, yN, op, rel, to + (i : Int)⟩; dsimp only at hr; have K' : Keeps (fun _ => False) w1 w' := (kW.trans k6).trans' kk (fun _ _ e => e) (fun t hi e => by have := owns_base hown6 t e; omega); clear hown6 kk C6 k6 hI5 K45) | (rw [← H6.out]; clear H6; refine wpList_load_run rfl 42 _ rfl ⟨wr.heap.size, 0, none⟩ rfl _ hR6 ?_; clear hR6) | (at_builtin; refine wpList_append_run' rfl _ _ _ rfl _ _ _ w' rfl rfl hr ?_; clear hr))
                go_roundw
                case rel => exact ⟨j + 1, by omega, by go_num, by rw [HTk.out, ← List.append_assoc]; exact ho, K', HJ2⟩
                case measure => simp [intOf]; omega
              · clear hown HTk HJ1
                by_cases ht1 : to < 0
                · have y1 : decide (to < 0) = true := decide_eq_true ht1
                  go_wp2_with (first | (refine wpList_load_run rfl 42 _ rfl ⟨b, off + j * 11, none⟩ rfl _ hR1 ?_; clear hR1) | (rw [← hW4]; clear hW4; refine wpList_store_cl rfl 42 _ _ rfl wr.heap.size 0 11 _ rfl rfl rfl hU4 (by show 11 ≤ 11; decide) iRn hA ?_; intro w5 hc5 k5 hsz5; clear hsz5; have hI5 : CL w5 wr.heap.size (⟨7, dst, oR, oN, xR, xN, yR, yN, op, rel, to⟩ : Ins).cells := hc5; have K45 : Keeps (fun _ => False) wr w5 := k4.trans' k5 (fun _ _ e => e) (fun t hi e => by have e : t = wr.heap.size := e; omega); have c0 := hI5.c 0 _ rfl; have c10 := hI5.c 10 _ rfl; have z10 := hI5.z 10 (by show 10 < 11; decide)))
                  go_ret
                  exact ⟨rfl, (k0.trans (kW.trans K45)).below (Nat.le_refl _) (fun _ _ e => e)⟩
                · have y1 : decide (to < 0) = false := decide_eq_false ht1
                  have y2 : decide ((n : Int) < to) = true := decide_eq_true (by omega)
                  go_wp2_with (first | (refine wpList_load_run rfl 42 _ rfl ⟨b, off + j * 11, none⟩ rfl _ hR1 ?_; clear hR1) | (rw [← hW4]; clear hW4; refine wpList_store_cl rfl 42 _ _ rfl wr.heap.size 0 11 _ rfl rfl rfl hU4 (by show 11 ≤ 11; decide) iRn hA ?_; intro w5 hc5 k5 hsz5; clear hsz5; have hI5 : CL w5 wr.heap.size (⟨7, dst, oR, oN, xR, xN, yR, yN, op, rel, to⟩ : Ins).cells := hc5; have K45 : Keeps (fun _ => False) wr w5 := k4.trans' k5 (fun _ _ e => e) (fun t hi e => by have e : t = wr.heap.size := e; omega); have c0 := hI5.c 0 _ rfl; have c10 := hI5.c 10 _ rfl; have z10 := hI5.z 10 (by show 10 < 11; decide)))
                  go_ret
                  exact ⟨rfl, (k0.trans (kW.trans K45)).below (Nat.le_refl _) (fun _ _ e => e)⟩
            by_cases hc8 : cd = 8
            · subst hc8
              by_cases ht : 0 ≤ to ∧ to ≤ (n : Int)
              · have HJ2 := HJ1 (fun _ => ht)
                have y1 : decide (to < 0) = false := decide_eq_false (by omega)
                have y2 : decide ((n : Int) < to) = false := decide_eq_false (by omega)
                have hwt : IntKind.i64.wrap (to + (i : Int)) = to + (i : Int) := by rw [IntKind.wrap_i64]; omega
                have e6 : sh i ⟨8, dst, oR, oN, xR, xN, yR, yN, op, rel, to⟩ = ⟨8, dst, oR, oN, xR, xN, yR, yN, op, rel, to + (i : Int)⟩ := if_pos rfl
                rw [e6] at HTk
                clear e6
                go_wp2_with (first | (refine wpList_load_run rfl 42 _ rfl ⟨b, off + j * 11, none⟩ rfl _ hR1 ?_; clear hR1) | (rw [← hW4]; clear hW4; refine wpList_store_cl rfl 42 _ _ rfl wr.heap.size 0 11 _ rfl rfl rfl hU4 (by show 11 ≤ 11; decide) iRn hA ?_; intro w5 hc5 k5 hsz5; clear hsz5; have hI5 : CL w5 wr.heap.size (⟨8, dst, oR, oN, xR, xN, yR, yN, op, rel, to⟩ : Ins).cells := hc5; have K45 : Keeps (fun _ => False) wr w5 := k4.trans' k5 (fun _ _ e => e) (fun t hi e => by have e : t = wr.heap.size := e; omega); have c0 := hI5.c 0 _ rfl; have c10 := hI5.c 10 _ rfl; have z10 := hI5.z 10 (by show 10 < 11; decide); have C6 : CL (w5.setCell ⟨wr.heap.size, 10, none⟩ (.int .i64 (to + (i : Int)))) wr.heap.size (⟨8, dst, oR, oN, xR, xN, yR, yN, op, rel, to + (i : Int)⟩ : Ins).cells := hI5.set (o := 10) (by show 10 < 11; decide) _; have k6 : Keeps (fun _ => False) wr (w5.setCell ⟨wr.heap.size, 10, none⟩ (.int .i64 (to + (i : Int)))) := K45.setCell (fun h => absurd h (Nat.lt_irrefl _)) _; obtain ⟨w6, hw6⟩ : ∃ w6, w6 = w5.setCell ⟨wr.heap.size, 10, none⟩ (.int .i64 (to + (i : Int))) := ⟨_, rfl⟩; rw [← hw6] at C6 k6; have H6 : Hid (w6 = _) := hw6; clear hw6; have hown6 := k6.owns hown (fun _ _ e => e); have hR6 : (loadVar 42 ⟨wr.heap.size, 0, none⟩).run Tryd.prog w6 = .ok (.agg #[.int .i64 8, .int .i64 dst, .bool oR, .int .i64 oN, .bool xR, .int .i64 xN, .bool yR, .int .i64 yN, .int .i64 op, .int .i64 rel, .int .i64 (to + (i : Int))]) w6 := run_insAt (t := 42) (b := wr.heap.size) (o := 0) (q := ⟨8, dst, oR, oN, xR, xN, yR, yN, op, rel, to + (i : Int)⟩) (fun j v e => by have := C6.c j v e; rwa [Nat.zero_add]) ⟨_, Tryd.underlying42⟩ iRn; obtain ⟨v', w', hr, ho, kk⟩ := append_r hown6 (kW.trans k6).size (by omega) ⟨8, dst, oR, oN, xR, xN, yR, yN, op, rel, to + (i : Int)⟩; dsimp only at hr; have K' : Keeps (fun _ => False) w1 w' := (kW.trans k6).trans' kk (fun _ _ e => e) (fun t hi e => by have := owns_base hown6 t e; omega); clear hown6 kk C6 k6 hI5 K45) | (rw [← H6.out]; clear H6; refine wpList_load_run rfl 42 _ rfl ⟨wr.heap.size, 0, none⟩ rfl _ hR6 ?_; clear hR6) | (at_builtin; refine wpList_append_run' rfl _ _ _ rfl _ _ _ w' rfl rfl hr ?_; clear hr))
                go_roundw
                case rel => exact ⟨j + 1, by omega, by go_num, by rw [HTk.out, ← List.append_assoc]; exact ho, K', HJ2⟩
                case measure => simp [intOf]; omega
              · clear hown HTk HJ1
                by_cases ht1 : to < 0
                · have y1 : decide (to < 0) = true := decide_eq_true ht1
                  go_wp2_with (first | (refine wpList_load_run rfl 42 _ rfl ⟨b, off + j * 11, none⟩ rfl _ hR1 ?_; clear hR1) | (rw [← hW4]; clear hW4; refine wpList_store_cl rfl 42 _ _ rfl wr.heap.size 0 11 _ rfl rfl rfl hU4 (by show 11 ≤ 11; decide) iRn hA ?_; intro w5 hc5 k5 hsz5; clear hsz5; have hI5 : CL w5 wr.heap.size (⟨8, dst, oR, oN, xR, xN, yR, yN, op, rel, to⟩ : Ins).cells := hc5; have K45 : Keeps (fun _ => False) wr w5 := k4.trans' k5 (fun _ _ e => e) (fun t hi e => by have e : t = wr.heap.size := e; omega); have c0 := hI5.c 0 _ rfl; have c10 := hI5.c 10 _ rfl; have z10 := hI5.z 10 (by show 10 < 11; decide)))
                  go_ret
                  exact ⟨rfl, (k0.trans (kW.trans K45)).below (Nat.le_refl _) (fun _ _ e => e)⟩
                · have y1 : decide (to < 0) = false := decide_eq_false ht1
                  have y2 : decide ((n : Int) < to) = true := decide_eq_true (by omega)
                  go_wp2_with (first | (refine wpList_load_run rfl 42 _ rfl ⟨b, off + j * 11, none⟩ rfl _ hR1 ?_; clear hR1) | (rw [← hW4]; clear hW4; refine wpList_store_cl rfl 42 _ _ rfl wr.heap.size 0 11 _ rfl rfl rfl hU4 (by show 11 ≤ 11; decide) iRn hA ?_; intro w5 hc5 k5 hsz5; clear hsz5; have hI5 : CL w5 wr.heap.size (⟨8, dst, oR, oN, xR, xN, yR, yN, op, rel, to⟩ : Ins).cells := hc5; have K45 : Keeps (fun _ => False) wr w5 := k4.trans' k5 (fun _ _ e => e) (fun t hi e => by have e : t = wr.heap.size := e; omega); have c0 := hI5.c 0 _ rfl; have c10 := hI5.c 10 _ rfl; have z10 := hI5.z 10 (by show 10 < 11; decide)))
                  go_ret
                  exact ⟨rfl, (k0.trans (kW.trans K45)).below (Nat.le_refl _) (fun _ _ e => e)⟩
            have x7 : (cd == 7) = false := beq_eq_false_iff_ne.2 hc7
            have x8 : (cd == 8) = false := beq_eq_false_iff_ne.2 hc8
            have hnj : ¬ (⟨cd, dst, oR, oN, xR, xN, yR, yN, op, rel, to⟩ : Ins).jmp = true := by show ¬ ((cd == 7 || cd == 8) = true); rw [x7, x8]; decide
            have HJ2 := HJ1 (fun h => absurd h hnj)
            have e6 : sh i ⟨cd, dst, oR, oN, xR, xN, yR, yN, op, rel, to⟩ = ⟨cd, dst, oR, oN, xR, xN, yR, yN, op, rel, to⟩ := if_neg hnj
            rw [e6] at HTk
            clear e6
            go_wp2_with (first | (refine wpList_load_run rfl 42 _ rfl ⟨b, off + j * 11, none⟩ rfl _ hR1 ?_; clear hR1) | (rw [← hW4]; clear hW4; refine wpList_store_cl rfl 42 _ _ rfl wr.heap.size 0 11 _ rfl rfl rfl hU4 (by show 11 ≤ 11; decide) iRn hA ?_; intro w5 hc5 k5 hsz5; clear hsz5; have hI5 : CL w5 wr.heap.size (⟨cd, dst, oR, oN, xR, xN, yR, yN, op, rel, to⟩ : Ins).cells := hc5; have K45 : Keeps (fun _ => False) wr w5 := k4.trans' k5 (fun _ _ e => e) (fun t hi e => by have e : t = wr.heap.size := e; omega); have c0 := hI5.c 0 _ rfl; have c10 := hI5.c 10 _ rfl; have z10 := hI5.z 10 (by show 10 < 11; decide); have C6 := hI5; have k6 := K45; have hown6 := k6.owns hown (fun _ _ e => e); have hR6 : (loadVar 42 ⟨wr.heap.size, 0, none⟩).run Tryd.prog w5 = .ok (.agg #[.int .i64 cd, .int .i64 dst, .bool oR, .int .i64 oN, .bool xR, .int .i64 xN, .bool yR, .int .i64 yN, .int .i64 op, .int .i64 rel, .int .i64 to]) w5 := run_insAt (t := 42) (b := wr.heap.size) (o := 0) (q := ⟨cd, dst, oR, oN, xR, xN, yR, yN, op, rel, to⟩) (fun j v e => by have := C6.c j v e; rwa [Nat.zero_add]) ⟨_, Tryd.underlying42⟩ iRn; obtain ⟨v', w', hr, ho, kk⟩ := append_r hown6 (kW.trans k6).size (by omega) ⟨cd, dst, oR, oN, xR, xN, yR, yN, op, rel, to⟩; dsimp only at hr; have K' : Keeps (fun _ => False) w1 w' := (kW.trans k6).trans' kk (fun _ _ e => e) (fun t hi e => by have := owns_base hown6 t e; omega); clear hown6 kk C6 k6 hI5 K45) | (refine wpList_load_run rfl 42 _ rfl ⟨wr.heap.size, 0, none⟩ rfl _ hR6 ?_; clear hR6) | (at_builtin; refine wpList_append_run' rfl _ _ _ rfl _ _ _ w' rfl rfl hr ?_; clear hr))
            go_roundw
            case rel => exact ⟨j + 1, by omega, by go_num, by rw [HTk.out, ← List.append_assoc]; exact ho, K', HJ2⟩
            case measure => simp [intOf]; omega
          · have hltI : decide ((j : Int) < (n : Int)) = false := decide_eq_false (by omega)
            obtain rfl : j = n := by omega
            go_wp2_with fail
            refine hKH.out _ _ ?_
            have eT : l.take j = l := by rw [← hn]; exact List.take_length
            rw [eT] at hown
            obtain ⟨al, cl, rfl, hL⟩ := isl_of_owns_r hown (by rw [show (List.range i).map pre1 ++ l.map (sh i) = lng i l from rfl, lng_len, hn])
            exact shift_tail (k := i) (hLT1.keep kW) (hl1.keep kW) hn hL rfl (by rw [show (List.range i).map pre1 ++ l.map (sh i) = lng i l from rfl, lng_len, hn]) hlen hk70 (fun p hp => by rw [hn] at hp ⊢; exact hJ.out p hp) (fun w' kw => ⟨rfl, ((k0.trans kW).trans kw).below (Nat.le_refl _) (fun _ _ e => e)⟩)
  · clear hl
    by_cases h0 : kk < 0
    · have b1 : decide (kk < 0) = true := decide_eq_true h0
      go_enter Tryd.func6, Tryd.ntmps6
      go_wp2_with fail
      refine hFx.mono ?_
      clear hFx
      rintro e w1 ⟨rfl, k0⟩
      have hFx2 := fixed_ok (hT.keep k0) (hNT.keep k0)
      go_wp2_with fail
      refine hFx2.mono ?_
      clear hFx2
      rintro e w2 ⟨rfl, k2⟩
      go_wp2_with fail
      go_ret
      exact ⟨rfl, (k0.trans k2).below (Nat.le_refl _) (fun _ _ e => e)⟩
    · have b1 : decide (kk < 0) = false := decide_eq_false h0
      have b2 : decide ((70 : Int) < kk) = true := decide_eq_true (by omega)
      go_enter Tryd.func6, Tryd.ntmps6
      go_wp2_with fail
      refine hFx.mono ?_
      clear hFx
      rintro e w1 ⟨rfl, k0⟩
      have hFx2 := fixed_ok (hT.keep k0) (hNT.keep k0)
      go_wp2_with fail
      refine hFx2.mono ?_
      clear hFx2
      rintro e w2 ⟨rfl, k2⟩
      go_wp2_with fail
      go_ret
      exact ⟨rfl, (k0.trans k2).below (Nat.le_refl _) (fun _ _ e => e)⟩
end Go.Proofs.YtclednbclgkdaaaDoor
