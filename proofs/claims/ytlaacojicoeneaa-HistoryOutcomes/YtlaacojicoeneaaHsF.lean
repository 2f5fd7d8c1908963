import Derived.Test.YtlaacojicoeneaaHsE
namespace Go.Proofs.Ytlaacojicoeneaa
open Go.RowKit
theorem takes_load {P : Program} {w : World} {o : Oper} {a : Act} (ty : TypeId) (x : Operand) (ho : o.op = .load ty x) (ad : Addr) (hx : a.eval x = .pointer (some ad)) {v : Value} (hr : (loadVar ty ad).run P w = .ok v w) : (execOp a.eval o).run P w = .ok (.value v) w := by
  unfold execOp
  simp only [ho, hx, Instr.loadAt, Instr.sureAddr, Sem.run_bind, Sem.run_pure, Result.andThen_ok, hr]
/-- A thread's state, by its last row. -/
def stR (r : Rw) : Int := if r.kind = 17 then 0 else if dec r.fin then 3 else if r.fin ≠ 0 then 2 else 1
def g0 (k : Nat) : Nat → Int := fun o => if o < k then -1 else 0
set_option maxHeartbeats 1000000 in
set_option maxRecDepth 100000 in
theorem book_any (w : World) : Calls Try.prog 26 #[] w fun e w' => e = .returned (.pointer (some ⟨w.heap.size, 0, none⟩)) ∧ IB w' w.heap.size 14 (g0 6) ∧ Keeps (fun _ => False) w w' := by
  obtain ⟨W, hW⟩ : ∃ W, W = w.alloc (.cells #[.int .i64 0, .int .i64 0, .int .i64 0, .int .i64 0, .int .i64 0, .int .i64 0, .int .i64 0, .int .i64 0, .int .i64 0, .int .i64 0, .int .i64 0, .int .i64 0, .int .i64 0, .int .i64 0] 102) := ⟨_, rfl⟩
  have hI : IB W w.heap.size 14 (g0 0) := by
    rw [hW]
    have := IB.made w 14 0 102
    refine ⟨fun o ho => ?_, fun o ho => this.z o ho⟩
    have e : g0 0 o = 0 := by unfold g0; rw [if_neg (by omega)]
    rw [e]
    exact this.c o ho
  have kW : Keeps (fun k => k = w.heap.size) w W := by rw [hW]; exact (Keeps.refl _ w).alloc _
  go_enter Try.func26, Try.ntmps26
  go_wp2_with fail
  rw [← hW]
  clear hW
  go_loopw [2] (fun iv Wr => ∃ k : Nat, iv = .int .i64 (k : Int) ∧ k ≤ 6 ∧ IB Wr w.heap.size 14 (g0 k) ∧ Keeps (fun k => k = w.heap.size) w Wr) (fun iv _ => 6 - (intOf iv).toNat)
  case atStart => exact ⟨0, rfl, by decide, hI, kW⟩
  case round =>
    obtain ⟨k, rfl, hk, hK, kr⟩ := hrel
    by_cases hlt : k < 6
    · have l1 : decide ((k : Int) < 6) = true := decide_eq_true (by omega)
      have l2 : (k : Int) < 6 := by omega
      have l3 : (0 : Int) ≤ (k : Int) := by omega
      have hF : Hid (up (g0 k) k (-1) = g0 (k + 1)) := by
        show _ = _
        funext o
        unfold up g0
        by_cases e : o = k
        · rw [if_pos e, if_pos (by omega)]
        · rw [if_neg e]
          by_cases g : o < k
          · rw [if_pos g, if_pos (by omega)]
          · rw [if_neg g, if_neg (by omega)]
      go_wp2_with (refine wpList_store_ib rfl rfl _ _ rfl w.heap.size k rfl _ rfl hK (by omega) ?_; intro w2 hK2 k2 hz2; clear hz2)
      rw [hF.out] at hK2
      go_roundw
      case rel => exact ⟨k + 1, by go_num, by omega, hK2, kr.trans k2⟩
      case measure => simp [intOf]; omega
    · have e : k = 6 := by omega
      subst e
      go_wp2
      go_ret
      exact ⟨rfl, hK, kr.mono (fun i hi e => by have e : i = w.heap.size := e; omega)⟩
set_option maxHeartbeats 1000000 in
set_option maxRecDepth 100000 in
theorem rstate_none (w : World) {gb : Nat} {g : Nat → Int} (hB : IB w gb 14 g) {a : Option Addr} {n cap : Nat} (th : Nat) (ht : th < 6) (hg : g th = -1) : Calls Try.prog 49 #[.pointer (some ⟨gb, 0, none⟩), .slice a n cap, .int .i64 (th : Int)] w fun e w' => e = .returned (.int .i64 0) ∧ Keeps (fun _ => False) w w' := by
  have d0 := hB.c th (by omega)
  rw [hg] at d0
  have i1 : (0 : Int) ≤ (th : Int) := by omega
  have i2 : (th : Int) < 6 := by omega
  have k0 : Keeps (fun _ => False) w w := Keeps.refl _ w
  go_enter Try.func49, Try.ntmps49
  go_wp2
  go_ret
  exact ⟨rfl, k0⟩
set_option maxHeartbeats 1000000 in
set_option maxRecDepth 100000 in
theorem rstate_some (w : World) {gb : Nat} {g : Nat → Int} (hB : IB w gb 14 g) {a : Option Addr} {l : List Rw} {cap : Nat} (hl : RSL w a l) (th j : Nat) (ht : th < 6) (hg : g th = (j : Int)) (hj : j < l.length) : Calls Try.prog 49 #[.pointer (some ⟨gb, 0, none⟩), .slice a l.length cap, .int .i64 (th : Int)] w fun e w' => e = .returned (.int .i64 (stR (l.getD j rw0))) ∧ Keeps (fun _ => False) w w' := by
  have d0 := hB.c th (by omega)
  rw [hg] at d0
  have i1 : (0 : Int) ≤ (th : Int) := by omega
  have i2 : (th : Int) < 6 := by omega
  have i3 : decide ((j : Int) < 0) = false := decide_eq_false (by omega)
  have i4 : (0 : Int) ≤ (j : Int) := by omega
  have i5 : (j : Int) < (l.length : Int) := by omega
  obtain ⟨b, off, rfl, hc⟩ := hl j hj
  have hR := run_rwAt hc
  clear hc hl hg hj
  generalize l.length = N at *
  generalize l.getD j rw0 = q at *
  obtain ⟨W4, hW4⟩ : ∃ W4, W4 = w.alloc (.cells #[.int .i64 0, .int .i64 0, .int .i64 0, .int .i64 0, .int .i64 0, .int .i64 0, .int .i64 0, .int .i64 0, .int .i64 0, .int .i64 0, .int .i64 0, .int .i64 0, .int .i64 0, .bool false, .bool false, .bool false, .int .i64 0, .bool false, .int .i64 0, .int .i64 0, .bool false, .bool false, .int .i64 0, .int .i64 0, .bool false, .int .i64 0] 39) := ⟨_, rfl⟩
  have k4 : Keeps (fun _ => False) w W4 := by rw [hW4]; exact (Keeps.refl _ w).alloc _
  have hU4 : CL W4 w.heap.size rw0.cells := by rw [hW4]; exact CL.made w rw0.cells _
  have hOC := all_oneCell_rw q
  have HW4 : Hid (W4 = w.alloc (.cells #[.int .i64 0, .int .i64 0, .int .i64 0, .int .i64 0, .int .i64 0, .int .i64 0, .int .i64 0, .int .i64 0, .int .i64 0, .int .i64 0, .int .i64 0, .int .i64 0, .int .i64 0, .bool false, .bool false, .bool false, .int .i64 0, .bool false, .int .i64 0, .int .i64 0, .bool false, .bool false, .int .i64 0, .int .i64 0, .bool false, .int .i64 0] 39)) := hW4
  clear hW4
  have hou := fun W => outcome_any W q.fin
  unfold stR
  generalize dec q.fin = dz at *
  by_cases h17 : q.kind = 17
  · rw [if_pos h17]
    have s1 : (q.kind == 17) = true := by simp [h17]
    clear h17
    go_enter Try.func49, Try.ntmps49
    go_wp2_with (first | (refine wpList_load_run rfl 39 _ rfl ⟨b, off + j * 26, none⟩ rfl _ hR ?_; clear hR) | (rw [← HW4.out]; clear HW4; refine wpList_store_cl rfl 39 _ _ rfl w.heap.size 0 26 _ rfl rfl rfl hU4 (by show 26 ≤ 26; decide) iRw hOC ?_; intro w5 hc5 k5 hsz5; clear hsz5; have hI5 : CL w5 w.heap.size q.cells := hc5; clear hc5; have K45 : Keeps (fun _ => False) w w5 := k4.trans' k5 (fun _ _ e => e) (fun i hi e => (by have e : i = w.heap.size := e; omega)); have c5 := hI5.c 5 _ rfl; have c25 := hI5.c 25 _ rfl) | (go_at_call 34; refine (hou _).mono ?_; rintro e w9 ⟨rfl, ew⟩; subst w9))
    go_ret
    exact ⟨rfl, K45⟩
  · rw [if_neg h17]
    have s1 : (q.kind == 17) = false := beq_eq_false_iff_ne.2 h17
    clear h17
    cases dz
    · by_cases h0 : q.fin = 0
      · have s2 : (q.fin != 0) = false := by simp [h0]
        rw [if_neg (by decide), if_neg (by simpa using h0)]
        clear h0
        go_enter Try.func49, Try.ntmps49
        go_wp2_with (first | (refine wpList_load_run rfl 39 _ rfl ⟨b, off + j * 26, none⟩ rfl _ hR ?_; clear hR) | (rw [← HW4.out]; clear HW4; refine wpList_store_cl rfl 39 _ _ rfl w.heap.size 0 26 _ rfl rfl rfl hU4 (by show 26 ≤ 26; decide) iRw hOC ?_; intro w5 hc5 k5 hsz5; clear hsz5; have hI5 : CL w5 w.heap.size q.cells := hc5; clear hc5; have K45 : Keeps (fun _ => False) w w5 := k4.trans' k5 (fun _ _ e => e) (fun i hi e => (by have e : i = w.heap.size := e; omega)); have c5 := hI5.c 5 _ rfl; have c25 := hI5.c 25 _ rfl) | (go_at_call 34; refine (hou _).mono ?_; rintro e w9 ⟨rfl, ew⟩; subst w9))
        go_ret
        exact ⟨rfl, K45⟩
      · have s2 : (q.fin != 0) = true := by simp [h0]
        rw [if_neg (by decide), if_pos h0]
        clear h0
        go_enter Try.func49, Try.ntmps49
        go_wp2_with (first | (refine wpList_load_run rfl 39 _ rfl ⟨b, off + j * 26, none⟩ rfl _ hR ?_; clear hR) | (rw [← HW4.out]; clear HW4; refine wpList_store_cl rfl 39 _ _ rfl w.heap.size 0 26 _ rfl rfl rfl hU4 (by show 26 ≤ 26; decide) iRw hOC ?_; intro w5 hc5 k5 hsz5; clear hsz5; have hI5 : CL w5 w.heap.size q.cells := hc5; clear hc5; have K45 : Keeps (fun _ => False) w w5 := k4.trans' k5 (fun _ _ e => e) (fun i hi e => (by have e : i = w.heap.size := e; omega)); have c5 := hI5.c 5 _ rfl; have c25 := hI5.c 25 _ rfl) | (go_at_call 34; refine (hou _).mono ?_; rintro e w9 ⟨rfl, ew⟩; subst w9))
        go_ret
        exact ⟨rfl, K45⟩
    · rw [if_pos rfl]
      go_enter Try.func49, Try.ntmps49
      go_wp2_with (first | (refine wpList_load_run rfl 39 _ rfl ⟨b, off + j * 26, none⟩ rfl _ hR ?_; clear hR) | (rw [← HW4.out]; clear HW4; refine wpList_store_cl rfl 39 _ _ rfl w.heap.size 0 26 _ rfl rfl rfl hU4 (by show 26 ≤ 26; decide) iRw hOC ?_; intro w5 hc5 k5 hsz5; clear hsz5; have hI5 : CL w5 w.heap.size q.cells := hc5; clear hc5; have K45 : Keeps (fun _ => False) w w5 := k4.trans' k5 (fun _ _ e => e) (fun i hi e => (by have e : i = w.heap.size := e; omega)); have c5 := hI5.c 5 _ rfl; have c25 := hI5.c 25 _ rfl) | (go_at_call 34; refine (hou _).mono ?_; rintro e w9 ⟨rfl, ew⟩; subst w9))
      go_ret
      exact ⟨rfl, K45⟩
theorem store_rw {W : World} {b : Nat} (h : CL W b rw0.cells) (q : Rw) : CL (W.setCells b 0 q.cells.toArray.toList) b q.cells ∧ Keeps (fun k => k = b) W (W.setCells b 0 q.cells.toArray.toList) := ⟨h.sets (by show 0 + 26 ≤ 26; decide), (Keeps.refl _ W).setsA _ _⟩
set_option maxHeartbeats 1000000 in
set_option maxRecDepth 100000 in
theorem rsame_any (w : World) {gb : Nat} {g : Nat → Int} (hB : IB w gb 14 g) {a : Option Addr} {l : List Rw} {cap : Nat} (hl : RSL w a l) (r : Rw) (th j : Nat) (et : r.thread = (th : Int)) (ht : th < 6) (hg : g th = (j : Int)) (hj : j < l.length) : Calls Try.prog 50 #[.pointer (some ⟨gb, 0, none⟩), .slice a l.length cap, .agg r.cells.toArray] w fun e w' => e = .returned (.bool (eq3 r.job r.try_ r.no (l.getD j rw0).job (l.getD j rw0).try_ (l.getD j rw0).no)) ∧ Keeps (fun _ => False) w w' := by
  obtain ⟨w0, e0, k0, hb, hz0⟩ := rw_box w r
  have hB0 := hB.keep (by decide) k0 (fun e => e)
  have d0 := hB0.c th (by omega)
  rw [hg] at d0
  obtain ⟨b, off, rfl, hc⟩ := (hl.keep k0) j hj
  obtain ⟨-, -, c1, c2, c3, c4, -, -, -, -, -, -, -, -, -⟩ := hb
  rw [et] at c1
  have i1 : (0 : Int) ≤ (th : Int) := by omega
  have i2 : (th : Int) < 6 := by omega
  have i4 : (0 : Int) ≤ (j : Int) := by omega
  have i5 : (j : Int) < (l.length : Int) := by omega
  clear hl hg hj hB hB0 et
  generalize l.length = N at *
  generalize l.getD j rw0 = q at *
  have hOC := all_oneCell_rw q
  unfold eq3
  generalize hx1 : (r.job == q.job) = x1
  generalize hx2 : (r.try_ == q.try_) = x2
  generalize hx3 : (r.no == q.no) = x3
  go_enter Try.func50, Try.ntmps50
  refine wp_seq_k (fun KK hKK => ?_)
  have hKH : Hid _ := hKK
  clear hKK
  go_wp2_with fail
  refine hKH.out _ _ ?_
  clear hKH KK
  rw [← e0]
  clear e0
  go_wp2_with fail
  refine wp_region_held_drew (S := fun w' => Keeps (fun _ => False) w0 w') (by kernel_rfl) (Keeps.refl _ w0).drew (fun hHeld => ?_)
  refine wpAnyH_take (i := 0) (v := ?_) rfl (by kernel_rfl) (by kernel_rfl) (by kernel_rfl) (fun _ _ _ h => h) (Or.inl ⟨by rfl, ?_⟩) (by assumption) ?_
  rotate_left
  · intro wx hSw; clear hSw; go_simp <;> with_reducible rfl
  (try simp only [List.getElem_toArray]); (try simp only [List.getElem_cons_succ]); (try simp only [List.getElem_cons_zero]); (try simp only [Act.put]); (try simp only [List.setIfInBounds_toArray]); (repeat first | simp only [List.set_cons_succ] | simp only [List.set_cons_zero])
  refine wpAnyH_take (i := 1) (v := ?_) rfl (by kernel_rfl) (by kernel_rfl) (by kernel_rfl) (fun _ _ _ h => h) (Or.inl ⟨by rfl, ?_⟩) (by assumption) ?_
  rotate_left
  · intro wx hSw; clear hSw; go_simp <;> with_reducible rfl
  (try simp only [List.getElem_toArray]); (try simp only [List.getElem_cons_succ]); (try simp only [List.getElem_cons_zero]); (try simp only [Act.put]); (try simp only [List.setIfInBounds_toArray]); (repeat first | simp only [List.set_cons_succ] | simp only [List.set_cons_zero])
  refine wpAnyH_take (i := 2) (v := ?_) rfl (by kernel_rfl) (by kernel_rfl) (by kernel_rfl) (fun _ _ _ h => h) (Or.inl ⟨by rfl, ?_⟩) (by assumption) ?_
  rotate_left
  · intro wx hSw; clear hSw; go_simp <;> with_reducible rfl
  (try simp only [List.getElem_toArray]); (try simp only [List.getElem_cons_succ]); (try simp only [List.getElem_cons_zero]); (try simp only [Act.put]); (try simp only [List.setIfInBounds_toArray]); (repeat first | simp only [List.set_cons_succ] | simp only [List.set_cons_zero])
  refine wpAnyH_take (i := 3) (v := ?_) rfl (by kernel_rfl) (by kernel_rfl) (by kernel_rfl) (fun _ _ _ h => h) (Or.inl ⟨by rfl, ?_⟩) (by assumption) ?_
  rotate_left
  · intro wx hSw; have p1 := hSw.cell c1 (fun e => e); clear hSw; go_simp <;> with_reducible rfl
  (try simp only [List.getElem_toArray]); (try simp only [List.getElem_cons_succ]); (try simp only [List.getElem_cons_zero]); (try simp only [Act.put]); (try simp only [List.setIfInBounds_toArray]); (repeat first | simp only [List.set_cons_succ] | simp only [List.set_cons_zero])
  refine wpAnyH_take (i := 4) (v := ?_) rfl (by kernel_rfl) (by kernel_rfl) (by kernel_rfl) (fun _ _ _ h => h) (Or.inl ⟨by rfl, ?_⟩) (by assumption) ?_
  rotate_left
  · intro wx hSw; clear hSw; go_simp <;> with_reducible rfl
  (try simp only [List.getElem_toArray]); (try simp only [List.getElem_cons_succ]); (try simp only [List.getElem_cons_zero]); (try simp only [Act.put]); (try simp only [List.setIfInBounds_toArray]); (repeat first | simp only [List.set_cons_succ] | simp only [List.set_cons_zero])
  refine wpAnyH_take (i := 5) (v := ?_) rfl (by kernel_rfl) (by kernel_rfl) (by kernel_rfl) (fun _ _ _ h => h) (Or.inl ⟨by rfl, ?_⟩) (by assumption) ?_
  rotate_left
  · intro wx hSw; clear hSw; go_simp <;> with_reducible rfl
  (try simp only [List.getElem_toArray]); (try simp only [List.getElem_cons_succ]); (try simp only [List.getElem_cons_zero]); (try simp only [Act.put]); (try simp only [List.setIfInBounds_toArray]); (repeat first | simp only [List.set_cons_succ] | simp only [List.set_cons_zero])
  refine wpAnyH_take (i := 6) (v := ?_) rfl (by kernel_rfl) (by kernel_rfl) (by kernel_rfl) (fun _ _ _ h => h) (Or.inl ⟨by rfl, ?_⟩) (by assumption) ?_
  rotate_left
  · intro wx hSw; clear hSw; go_simp <;> with_reducible rfl
  (try simp only [List.getElem_toArray]); (try simp only [List.getElem_cons_succ]); (try simp only [List.getElem_cons_zero]); (try simp only [Act.put]); (try simp only [List.setIfInBounds_toArray]); (repeat first | simp only [List.set_cons_succ] | simp only [List.set_cons_zero])
  refine wpAnyH_take (i := 7) (v := ?_) rfl (by kernel_rfl) (by kernel_rfl) (by kernel_rfl) (fun _ _ _ h => h) (Or.inl ⟨by rfl, ?_⟩) (by assumption) ?_
  rotate_left
  · intro wx hSw; have p0 := hSw.cell d0 (fun e => e); clear hSw; go_simp <;> with_reducible rfl
  (try simp only [List.getElem_toArray]); (try simp only [List.getElem_cons_succ]); (try simp only [List.getElem_cons_zero]); (try simp only [Act.put]); (try simp only [List.setIfInBounds_toArray]); (repeat first | simp only [List.set_cons_succ] | simp only [List.set_cons_zero])
  refine wpAnyH_take (i := 8) (v := ?_) rfl (by kernel_rfl) (by kernel_rfl) (by kernel_rfl) (fun _ _ _ h => h) (Or.inl ⟨by rfl, ?_⟩) (by assumption) ?_
  rotate_left
  · intro wx hSw; clear hSw; go_simp <;> with_reducible rfl
  (try simp only [List.getElem_toArray]); (try simp only [List.getElem_cons_succ]); (try simp only [List.getElem_cons_zero]); (try simp only [Act.put]); (try simp only [List.setIfInBounds_toArray]); (repeat first | simp only [List.set_cons_succ] | simp only [List.set_cons_zero])
  refine wpAnyH_take (i := 9) (v := (.agg q.cells.toArray)) rfl (by kernel_rfl) (by kernel_rfl) (by kernel_rfl) (fun _ _ _ h => h) (Or.inl ⟨by rfl, ?_⟩) (by assumption) ?_
  · intro wx hSw; exact takes_load 39 _ rfl ⟨b, off + j * 26, none⟩ rfl (run_rwAt (fun j v e => hSw.cell (hc j v e) (fun e => e)))
  (try simp only [List.getElem_toArray]); (try simp only [List.getElem_cons_succ]); (try simp only [List.getElem_cons_zero]); (try simp only [Act.put]); (try simp only [List.setIfInBounds_toArray]); (repeat first | simp only [List.set_cons_succ] | simp only [List.set_cons_zero])
  have m0 := (CL.made w0.drew rw0.cells 39)
  have s0 : w0.drew.heap.size = w0.heap.size := rfl
  rw [s0, hz0] at m0
  refine wpAnyH_one 10 (by kernel_rfl) rfl rfl ?_
  go_simp
  refine ⟨hHeld.alloc _, fun hS1 => ?_⟩
  (try simp only [List.getElem_toArray]); (try simp only [List.getElem_cons_succ]); (try simp only [List.getElem_cons_zero]); (try simp only [Act.put]); (try simp only [List.setIfInBounds_toArray]); (repeat first | simp only [List.set_cons_succ] | simp only [List.set_cons_zero])
  have q6 := store_rw m0 q
  refine wpAnyH_store 11 (by kernel_rfl) rfl rfl 39 _ _ rfl (w.heap.size + 1) 0 26 _ rfl rfl rfl (m0.there (by show 0 + 26 ≤ 26; decide)) iRw hOC (hS1.trans' q6.2 (fun _ _ e => e) (fun i hi e => by have e : i = w.heap.size + 1 := e; omega)) (fun hS2 => ?_)
  (try simp only [List.getElem_toArray]); (try simp only [List.getElem_cons_succ]); (try simp only [List.getElem_cons_zero]); (try simp only [Act.put]); (try simp only [List.setIfInBounds_toArray]); (repeat first | simp only [List.set_cons_succ] | simp only [List.set_cons_zero])
  refine wpAnyH_done (by kernel_rfl) ?_ _
  generalize h9 : World.setCells _ _ _ _ = w9
  have hS3 : Keeps (fun _ => False) w0 w9 := by rw [← h9]; exact hS2
  have q9 : CL w9 (w.heap.size + 1) q.cells := by rw [← h9]; exact q6.1
  clear h9 hS1 hS2 hHeld m0 q6
  have K9 := k0.trans hS3
  have z2 := hS3.cell c2 (fun e => e)
  have z3 := hS3.cell c3 (fun e => e)
  have z4 := hS3.cell c4 (fun e => e)
  have y2 := q9.c 2 _ rfl
  have y3 := q9.c 3 _ rfl
  have y4 := q9.c 4 _ rfl
  cases x1
  · go_wp2; go_ret; exact ⟨rfl, K9⟩
  cases x2
  · go_wp2; go_ret; exact ⟨rfl, K9⟩
  go_wp2
  go_ret
  exact ⟨rfl, K9⟩
end Go.Proofs.Ytlaacojicoeneaa
