import Derived.Test.YthmlppepgcjfgaaBdU
namespace Go.Proofs.Ythmlppepgcjfgaa
open Go.RowKit Go.Deep
attribute [local go_sem] Oper.semAt_some run_store_nf run_store_f
theorem takes_load {P : Program} {w : World} {o : Oper} {a : Act} (ty : TypeId) (x : Operand) (ho : o.op = .load ty x) (ad : Addr) (hx : a.eval x = .pointer (some ad)) {v : Value} (hr : (loadVar ty ad).run P w = .ok v w) : (execOp a.eval o).run P w = .ok (.value v) w := by
  unfold execOp
  simp only [ho, hx, Instr.loadAt, Instr.sureAddr, Sem.run_bind, Sem.run_pure, Result.andThen_ok, hr]
theorem eql_swL (s : Sw) (w : World) : (Op.equalIn 10000 46 (.agg s.cells.toArray) (.agg s.cells.toArray)).run Try.prog w = .ok true w := by
  rw [run_equalIn_agg w 9999 _ _ _ (by kernel_rfl) (by kernel_rfl)]
  unfold Program.fieldsOf
  rw [Try.underlying46]
  unfold Sw.cells
  go_simp
theorem eql_woL (s : Wo) (w : World) : (Op.equalIn 10000 48 (.agg s.cells.toArray) (.agg s.cells.toArray)).run Try.prog w = .ok true w := by
  rw [run_equalIn_agg w 9999 _ _ _ (by kernel_rfl) (by kernel_rfl)]
  unfold Program.fieldsOf
  rw [Try.underlying48]
  unfold Wo.cells
  go_simp
theorem wp_allocTx {o : Oper} {a : Act} {w : World} {K : Act → World → Prop} {Q : Exit → Act → World → Prop} (ho : o.op = .alloc 32) (h : K (a.put o.dst (.pointer (some ⟨w.heap.size, 0, none⟩))) (w.alloc (.cells #[.int .i64 0, .int .i64 0, .int .i64 0, .int .i64 0, .int .i64 0, .int .i64 0, .int .i64 0, .int .i64 0, .int .i64 0, .slice none 0 0, .slice none 0 0] 32))) : o.wp Try.prog a w K Q := by
  unfold Oper.wp execOp
  simp only [ho]
  go_simp
  exact h
theorem store_tx {W : World} {b : Nat} (h : CL W b (tv0.clp ⟨none, 0, none, 0⟩)) (t : Tv) (q : Lp) : CL (W.setCells b 0 (t.clp q).toArray.toList) b (t.clp q) ∧ Keeps (fun k => k = b) W (W.setCells b 0 (t.clp q).toArray.toList) := ⟨h.sets (by show 0 + 11 ≤ 11; decide), (Keeps.refl _ W).setsA _ _⟩
set_option maxHeartbeats 6000000 in
set_option maxRecDepth 100000 in
theorem sameTxs_ok {w : World} {a b : Option Addr} {ts : List Tv} {pa pb : Nat → Lp} (ca cb : Nat) (hA : TXM w a ts pa) (hB : TXM w b ts pb) (hl : ts.length ≤ 1048576) (hS : sumT ts ≤ 1048576) : Calls Try.prog 9 #[.slice a ts.length ca, .slice b ts.length cb] w fun e w' => e = .returned (.bool true) ∧ Keeps (fun _ => False) w w' := by
  have HA : Hid (TXM w a ts pa) := hA
  have HB : Hid (TXM w b ts pb) := hB
  have HS : Hid (sumT ts ≤ 1048576) := hS
  clear hA hB hS
  have hnn : ((ts.length : Int) != (ts.length : Int)) = false := by simp
  generalize hN : ts.length = N at *
  have HN : Hid (ts.length = N) := hN
  clear hN
  go_enter Try.func9, Try.ntmps9
  go_wp2_with fail
  go_loopg [5] N (fun gh iv Wr => ∃ (i : Nat), gh + i = N ∧ iv = .int .i64 (i : Int) ∧ i ≤ N ∧ Keeps (fun _ => False) w Wr)
  case atStart => exact ⟨0, rfl, rfl, Nat.zero_le _, Keeps.refl _ _⟩
  case round =>
    obtain ⟨i, hgh, rfl, hiN, kr⟩ := hrel
    by_cases hlt : i < N
    · have j1 : decide ((i : Int) < (N : Int)) = true := decide_eq_true (by omega)
      have j2 : decide (i < N) = true := decide_eq_true hlt
      have j3 : (i : Int) < (N : Int) := by omega
      have j4 : (0 : Int) ≤ (i : Int) := by omega
      have hwi : IntKind.i64.wrap ((i : Int) + 1) = (i : Int) + 1 := by rw [IntKind.wrap_i64]; omega
      have hil : i < ts.length := by rw [HN.out]; exact hlt
      obtain ⟨⟨b1, o1, rfl, hc1⟩, hs1, hw1⟩ := HA.out i hil
      obtain ⟨⟨b2, o2, rfl, hc2⟩, hs2, hw2⟩ := HB.out i hil
      have hli : (ts.getD i tv0).saws.length ≤ 1048576 ∧ (ts.getD i tv0).wrs.length ≤ 1048576 := by
        have h1 := sumT_next hil
        have h2 := sumT_le ts (i + 1)
        have h3 := HS.out
        omega
      clear hil
      generalize ts.getD i tv0 = tv at *
      generalize pa i = qa at *
      generalize pb i = qb at *
      have HSA0 : Hid (∀ W, Keeps (fun _ => False) w W → SWM W qa.sa tv.saws) := fun W k => hs1.keep k
      have HSB0 : Hid (∀ W, Keeps (fun _ => False) w W → SWM W qb.sa tv.saws) := fun W k => hs2.keep k
      have HWA0 : Hid (∀ W, Keeps (fun _ => False) w W → WOM W qa.wa tv.wrs) := fun W k => hw1.keep k
      have HWB0 : Hid (∀ W, Keeps (fun _ => False) w W → WOM W qb.wa tv.wrs) := fun W k => hw2.keep k
      have HC1 : Hid (∀ W, Keeps (fun _ => False) wr W → (loadVar 32 ⟨b1, o1 + i * 11, none⟩).run Try.prog W = .ok (.agg (tv.clp qa).toArray) W) := fun W k => run_txAt (fun j v e => (kr.trans k).cell (hc1 j v e) (fun e => e))
      have HC2 : Hid (∀ W, Keeps (fun _ => False) wr W → (loadVar 32 ⟨b2, o2 + i * 11, none⟩).run Try.prog W = .ok (.agg (tv.clp qb).toArray) W) := fun W k => run_txAt (fun j v e => (kr.trans k).cell (hc2 j v e) (fun e => e))
      clear hs1 hs2 hw1 hw2 hc1 hc2
      obtain ⟨SN, hSN⟩ : ∃ SN, SN = tv.saws.length := ⟨_, rfl⟩
      obtain ⟨M, hM⟩ : ∃ M, M = tv.wrs.length := ⟨_, rfl⟩
      rw [← hSN, ← hM] at hli
      have hl1 := hli.1
      have hl2 := hli.2
      clear hli
      obtain ⟨sl, hsl⟩ : ∃ sl, sl = tv.saws := ⟨_, rfl⟩
      obtain ⟨wl, hwl⟩ : ∃ wl, wl = tv.wrs := ⟨_, rfl⟩
      rw [← hsl] at HSA0 HSB0
      rw [← hwl] at HWA0 HWB0
      have HLSN : Hid (sl.length = SN) := by show _ = _; rw [hsl, hSN]
      have HLM : Hid (wl.length = M) := by show _ = _; rw [hwl, hM]
      have hsz : (wr.drew.alloc (.cells #[.int .i64 0, .int .i64 0, .int .i64 0, .int .i64 0, .int .i64 0, .int .i64 0, .int .i64 0, .int .i64 0, .int .i64 0, .slice none 0 0, .slice none 0 0] 32)).heap.size = wr.heap.size + 1 := by simp
      have hK2 : Keeps (fun _ => False) wr ((wr.drew.alloc (.cells #[.int .i64 0, .int .i64 0, .int .i64 0, .int .i64 0, .int .i64 0, .int .i64 0, .int .i64 0, .int .i64 0, .int .i64 0, .slice none 0 0, .slice none 0 0] 32)).alloc (.cells #[.int .i64 0, .int .i64 0, .int .i64 0, .int .i64 0, .int .i64 0, .int .i64 0, .int .i64 0, .int .i64 0, .int .i64 0, .slice none 0 0, .slice none 0 0] 32)) := (((Keeps.refl _ wr).drew).alloc _).alloc _
      have mk1 : CL ((wr.drew.alloc (.cells #[.int .i64 0, .int .i64 0, .int .i64 0, .int .i64 0, .int .i64 0, .int .i64 0, .int .i64 0, .int .i64 0, .int .i64 0, .slice none 0 0, .slice none 0 0] 32)).alloc (.cells #[.int .i64 0, .int .i64 0, .int .i64 0, .int .i64 0, .int .i64 0, .int .i64 0, .int .i64 0, .int .i64 0, .int .i64 0, .slice none 0 0, .slice none 0 0] 32)) wr.heap.size (tv0.clp ⟨none, 0, none, 0⟩) := (CL.made wr.drew (tv0.clp ⟨none, 0, none, 0⟩) 32).alloc (by show 0 < 11; decide) _
      have mk2 : CL ((wr.drew.alloc (.cells #[.int .i64 0, .int .i64 0, .int .i64 0, .int .i64 0, .int .i64 0, .int .i64 0, .int .i64 0, .int .i64 0, .int .i64 0, .slice none 0 0, .slice none 0 0] 32)).alloc (.cells #[.int .i64 0, .int .i64 0, .int .i64 0, .int .i64 0, .int .i64 0, .int .i64 0, .int .i64 0, .int .i64 0, .int .i64 0, .slice none 0 0, .slice none 0 0] 32)) (wr.heap.size + 1) (tv0.clp ⟨none, 0, none, 0⟩) := by
        have := CL.made (wr.drew.alloc (.cells #[.int .i64 0, .int .i64 0, .int .i64 0, .int .i64 0, .int .i64 0, .int .i64 0, .int .i64 0, .int .i64 0, .int .i64 0, .slice none 0 0, .slice none 0 0] 32)) (tv0.clp ⟨none, 0, none, 0⟩) 32
        rw [hsz] at this
        exact this
      obtain ⟨th, jb, tr, no, st, bg, fn, en, ou, sa, wa⟩ := tv
      dsimp only at hSN hM hsl hwl
      subst hsl hwl
      have n1 : (th != th) = false := by simp
      have n2 : (jb != jb) = false := by simp
      have n3 : (tr != tr) = false := by simp
      have n4 : (no != no) = false := by simp
      have n5 : (st != st) = false := by simp
      have n6 : (bg != bg) = false := by simp
      have n7 : (fn != fn) = false := by simp
      have n8 : (en != en) = false := by simp
      have n9 : (ou != ou) = false := by simp
      have n10 : ((SN : Int) != (SN : Int)) = false := by simp
      have n11 : ((M : Int) != (M : Int)) = false := by simp
      obtain ⟨tv, htv⟩ : ∃ tv : Tv, tv = ⟨th, jb, tr, no, st, bg, fn, en, ou, sl, wl⟩ := ⟨_, rfl⟩
      have HCA : Hid (tv.clp qa = [.int .i64 th, .int .i64 jb, .int .i64 tr, .int .i64 no, .int .i64 st, .int .i64 bg, .int .i64 fn, .int .i64 en, .int .i64 ou, .slice qa.sa SN qa.sc, .slice qa.wa M qa.wc]) := by show _ = _; rw [htv, hSN, hM]; rfl
      have HCB : Hid (tv.clp qb = [.int .i64 th, .int .i64 jb, .int .i64 tr, .int .i64 no, .int .i64 st, .int .i64 bg, .int .i64 fn, .int .i64 en, .int .i64 ou, .slice qb.sa SN qb.sc, .slice qb.wa M qb.wc]) := by show _ = _; rw [htv, hSN, hM]; rfl
      rw [← htv] at HC1 HC2
      clear htv hSN hM
      go_wp2_with fail
      refine wp_region_held_drew (S := fun W => Keeps (fun _ => False) wr W) (by kernel_rfl) (Keeps.refl _ wr).drew (fun hHeld => ?_)
      refine wpAnyH_take (i := 0) (v := ?_) rfl (by kernel_rfl) (by kernel_rfl) (by kernel_rfl) (fun _ _ _ h => h) (Or.inl ⟨by rfl, ?_⟩) (by assumption) ?_
      rotate_left
      · intro wx hSw; clear hSw; go_simp <;> with_reducible rfl
      (try simp only [List.getElem_toArray]); (try simp only [List.getElem_cons_succ]); (try simp only [List.getElem_cons_zero]); (try simp only [Act.put]); (try simp only [List.setIfInBounds_toArray]); (repeat first | simp only [List.set_cons_succ] | simp only [List.set_cons_zero])
      refine wpAnyH_take (i := 1) (v := ?_) rfl (by kernel_rfl) (by kernel_rfl) (by kernel_rfl) (fun _ _ _ h => h) (Or.inl ⟨by rfl, ?_⟩) (by assumption) ?_
      rotate_left
      · intro wx hSw; clear hSw; go_simp <;> with_reducible rfl
      (try simp only [List.getElem_toArray]); (try simp only [List.getElem_cons_succ]); (try simp only [List.getElem_cons_zero]); (try simp only [Act.put]); (try simp only [List.setIfInBounds_toArray]); (repeat first | simp only [List.set_cons_succ] | simp only [List.set_cons_zero])
      refine wpAnyH_take (i := 2) (v := ?_) rfl (by kernel_rfl) (by kernel_rfl) (by kernel_rfl) (fun _ _ _ h => h) (Or.inl ⟨by rfl, ?_⟩) (by assumption) ?_
      rotate_left
      · intro wx hSw; clear hSw; go_simp <;> with_reducible rfl
      (try simp only [List.getElem_toArray]); (try simp only [List.getElem_cons_succ]); (try simp only [List.getElem_cons_zero]); (try simp only [Act.put]); (try simp only [List.setIfInBounds_toArray]); (repeat first | simp only [List.set_cons_succ] | simp only [List.set_cons_zero])
      refine wpAnyH_take (i := 3) (v := (.agg (tv.clp qa).toArray)) rfl (by kernel_rfl) (by kernel_rfl) (by kernel_rfl) (fun _ _ _ h => h) (Or.inl ⟨by rfl, ?_⟩) (by assumption) ?_
      · intro wx hSw; exact takes_load 32 _ rfl ⟨b1, o1 + i * 11, none⟩ rfl (HC1.out _ hSw)
      (try simp only [List.getElem_toArray]); (try simp only [List.getElem_cons_succ]); (try simp only [List.getElem_cons_zero]); (try simp only [Act.put]); (try simp only [List.setIfInBounds_toArray]); (repeat first | simp only [List.set_cons_succ] | simp only [List.set_cons_zero])
      refine wpAnyH_take (i := 4) (v := ?_) rfl (by kernel_rfl) (by kernel_rfl) (by kernel_rfl) (fun _ _ _ h => h) (Or.inl ⟨by rfl, ?_⟩) (by assumption) ?_
      rotate_left
      · intro wx hSw; clear hSw; go_simp <;> with_reducible rfl
      (try simp only [List.getElem_toArray]); (try simp only [List.getElem_cons_succ]); (try simp only [List.getElem_cons_zero]); (try simp only [Act.put]); (try simp only [List.setIfInBounds_toArray]); (repeat first | simp only [List.set_cons_succ] | simp only [List.set_cons_zero])
      refine wpAnyH_take (i := 5) (v := ?_) rfl (by kernel_rfl) (by kernel_rfl) (by kernel_rfl) (fun _ _ _ h => h) (Or.inl ⟨by rfl, ?_⟩) (by assumption) ?_
      rotate_left
      · intro wx hSw; clear hSw; go_simp <;> with_reducible rfl
      (try simp only [List.getElem_toArray]); (try simp only [List.getElem_cons_succ]); (try simp only [List.getElem_cons_zero]); (try simp only [Act.put]); (try simp only [List.setIfInBounds_toArray]); (repeat first | simp only [List.set_cons_succ] | simp only [List.set_cons_zero])
      refine wpAnyH_take (i := 6) (v := ?_) rfl (by kernel_rfl) (by kernel_rfl) (by kernel_rfl) (fun _ _ _ h => h) (Or.inl ⟨by rfl, ?_⟩) (by assumption) ?_
      rotate_left
      · intro wx hSw; clear hSw; go_simp <;> with_reducible rfl
      (try simp only [List.getElem_toArray]); (try simp only [List.getElem_cons_succ]); (try simp only [List.getElem_cons_zero]); (try simp only [Act.put]); (try simp only [List.setIfInBounds_toArray]); (repeat first | simp only [List.set_cons_succ] | simp only [List.set_cons_zero])
      refine wpAnyH_take (i := 7) (v := (.agg (tv.clp qb).toArray)) rfl (by kernel_rfl) (by kernel_rfl) (by kernel_rfl) (fun _ _ _ h => h) (Or.inl ⟨by rfl, ?_⟩) (by assumption) ?_
      · intro wx hSw; exact takes_load 32 _ rfl ⟨b2, o2 + i * 11, none⟩ rfl (HC2.out _ hSw)
      (try simp only [List.getElem_toArray]); (try simp only [List.getElem_cons_succ]); (try simp only [List.getElem_cons_zero]); (try simp only [Act.put]); (try simp only [List.setIfInBounds_toArray]); (repeat first | simp only [List.set_cons_succ] | simp only [List.set_cons_zero])
      clear HC1 HC2
      refine wpAnyH_two' 8 9 (by kernel_rfl) rfl rfl (by kernel_rfl) (by kernel_rfl) ?_ ?_
      · refine wp_allocTx rfl ?_
        refine ⟨hHeld.alloc _, fun _ => ?_⟩
        (try simp only [List.getElem_toArray]); (try simp only [List.getElem_cons_succ]); (try simp only [List.getElem_cons_zero]); (try simp only [Act.put]); (try simp only [List.setIfInBounds_toArray]); (repeat first | simp only [List.set_cons_succ] | simp only [List.set_cons_zero])
        refine wpAnyH_one 9 (by kernel_rfl) rfl rfl ?_
        refine wp_allocTx rfl ?_
        refine ⟨hK2, fun _ => ?_⟩
        (try simp only [List.getElem_toArray]); (try simp only [List.getElem_cons_succ]); (try simp only [List.getElem_cons_zero]); (try simp only [Act.put]); (try simp only [List.setIfInBounds_toArray]); (repeat first | simp only [List.set_cons_succ] | simp only [List.set_cons_zero])
        rw [hsz]
        have m6 : CL ((wr.drew.alloc (.cells #[.int .i64 0, .int .i64 0, .int .i64 0, .int .i64 0, .int .i64 0, .int .i64 0, .int .i64 0, .int .i64 0, .int .i64 0, .slice none 0 0, .slice none 0 0] 32)).alloc (.cells #[.int .i64 0, .int .i64 0, .int .i64 0, .int .i64 0, .int .i64 0, .int .i64 0, .int .i64 0, .int .i64 0, .int .i64 0, .slice none 0 0, .slice none 0 0] 32)) (wr.heap.size) (tv0.clp ⟨none, 0, none, 0⟩) := mk1
        have m7 : CL ((wr.drew.alloc (.cells #[.int .i64 0, .int .i64 0, .int .i64 0, .int .i64 0, .int .i64 0, .int .i64 0, .int .i64 0, .int .i64 0, .int .i64 0, .slice none 0 0, .slice none 0 0] 32)).alloc (.cells #[.int .i64 0, .int .i64 0, .int .i64 0, .int .i64 0, .int .i64 0, .int .i64 0, .int .i64 0, .int .i64 0, .int .i64 0, .slice none 0 0, .slice none 0 0] 32)) (wr.heap.size + 1) (tv0.clp ⟨none, 0, none, 0⟩) := mk2
        have q6 := store_tx m6 tv qa
        have m7b := m7.keep (by show 0 < 11; decide) q6.2 (fun e => by have e : wr.heap.size + 1 = wr.heap.size := e; omega)
        have q7 := store_tx m7b tv qb
        have K3 : Keeps (fun _ => False) wr (((wr.drew.alloc (.cells #[.int .i64 0, .int .i64 0, .int .i64 0, .int .i64 0, .int .i64 0, .int .i64 0, .int .i64 0, .int .i64 0, .int .i64 0, .slice none 0 0, .slice none 0 0] 32)).alloc (.cells #[.int .i64 0, .int .i64 0, .int .i64 0, .int .i64 0, .int .i64 0, .int .i64 0, .int .i64 0, .int .i64 0, .int .i64 0, .slice none 0 0, .slice none 0 0] 32)).setCells (wr.heap.size) 0 (tv.clp qa).toArray.toList) := hK2.trans' q6.2 (fun _ _ e => e) (fun i hi e => by have e : i = wr.heap.size := e; omega)
        have K4 : Keeps (fun _ => False) wr ((((wr.drew.alloc (.cells #[.int .i64 0, .int .i64 0, .int .i64 0, .int .i64 0, .int .i64 0, .int .i64 0, .int .i64 0, .int .i64 0, .int .i64 0, .slice none 0 0, .slice none 0 0] 32)).alloc (.cells #[.int .i64 0, .int .i64 0, .int .i64 0, .int .i64 0, .int .i64 0, .int .i64 0, .int .i64 0, .int .i64 0, .int .i64 0, .slice none 0 0, .slice none 0 0] 32)).setCells (wr.heap.size) 0 (tv.clp qa).toArray.toList).setCells (wr.heap.size + 1) 0 (tv.clp qb).toArray.toList) := K3.trans' q7.2 (fun _ _ e => e) (fun i hi e => by have e : i = wr.heap.size + 1 := e; omega)
        have C6 := q6.1.keep (by show 0 < 11; decide) q7.2 (fun e => by have e : wr.heap.size = wr.heap.size + 1 := e; omega)
        have C7 := q7.1
        refine wpAnyH_store 10 (by kernel_rfl) rfl rfl 32 _ _ rfl (wr.heap.size) 0 11 _ rfl rfl rfl (m6.there (by show 0 + 11 ≤ 11; decide)) iTx (all_oneCell_toArray (tx_one tv qa)) K3 (fun _ => ?_)
        (try simp only [List.getElem_toArray]); (try simp only [List.getElem_cons_succ]); (try simp only [List.getElem_cons_zero]); (try simp only [Act.put]); (try simp only [List.setIfInBounds_toArray]); (repeat first | simp only [List.set_cons_succ] | simp only [List.set_cons_zero])
        refine wpAnyH_store 11 (by kernel_rfl) rfl rfl 32 _ _ rfl (wr.heap.size + 1) 0 11 _ rfl rfl rfl (m7b.there (by show 0 + 11 ≤ 11; decide)) iTx (all_oneCell_toArray (tx_one tv qb)) K4 (fun _ => ?_)
        (try simp only [List.getElem_toArray]); (try simp only [List.getElem_cons_succ]); (try simp only [List.getElem_cons_zero]); (try simp only [Act.put]); (try simp only [List.setIfInBounds_toArray]); (repeat first | simp only [List.set_cons_succ] | simp only [List.set_cons_zero])
        refine wpAnyH_done (by kernel_rfl) ?_ _
        clear K3 m6 m7 m7b q6 q7 hHeld hK2 mk1 mk2 hsz
        generalize h9 : World.setCells _ _ _ _ = w9 at *
        have HK9 : Hid (Keeps (fun _ => False) w9 w9) := Keeps.refl _ _
        have HK09 : Hid (Keeps (fun _ => False) w w9) := kr.trans K4
        rw [HCA.out] at C6
        rw [HCB.out] at C7
        have p0 := C6.c 0 _ rfl
        have q0 := C7.c 0 _ rfl
        have p1 := C6.c 1 _ rfl
        have q1 := C7.c 1 _ rfl
        have p2 := C6.c 2 _ rfl
        have q2 := C7.c 2 _ rfl
        have p3 := C6.c 3 _ rfl
        have q3 := C7.c 3 _ rfl
        have p4 := C6.c 4 _ rfl
        have q4 := C7.c 4 _ rfl
        have p5 := C6.c 5 _ rfl
        have q5 := C7.c 5 _ rfl
        have p6 := C6.c 6 _ rfl
        have q6 := C7.c 6 _ rfl
        have p7 := C6.c 7 _ rfl
        have q7 := C7.c 7 _ rfl
        have p8 := C6.c 8 _ rfl
        have q8 := C7.c 8 _ rfl
        have p9 := C6.c 9 _ rfl
        have q9 := C7.c 9 _ rfl
        have p10 := C6.c 10 _ rfl
        have q10 := C7.c 10 _ rfl
        have HP9 : Hid (w9.cell? ⟨wr.heap.size, 9, none⟩ = some (.slice qa.sa SN qa.sc)) := p9
        have HQ9 : Hid (w9.cell? ⟨wr.heap.size + 1, 9, none⟩ = some (.slice qb.sa SN qb.sc)) := q9
        have HP10 : Hid (w9.cell? ⟨wr.heap.size, 10, none⟩ = some (.slice qa.wa M qa.wc)) := p10
        have HQ10 : Hid (w9.cell? ⟨wr.heap.size + 1, 10, none⟩ = some (.slice qb.wa M qb.wc)) := q10
        have HSA : Hid (∀ W, Keeps (fun _ => False) w9 W → SWM W qa.sa sl) := fun W k => HSA0.out W (HK09.out.trans k)
        have HSB : Hid (∀ W, Keeps (fun _ => False) w9 W → SWM W qb.sa sl) := fun W k => HSB0.out W (HK09.out.trans k)
        have HWA : Hid (∀ W, Keeps (fun _ => False) w9 W → WOM W qa.wa wl) := fun W k => HWA0.out W (HK09.out.trans k)
        have HWB : Hid (∀ W, Keeps (fun _ => False) w9 W → WOM W qb.wa wl) := fun W k => HWB0.out W (HK09.out.trans k)
        clear C6 C7 K4 kr HSA0 HSB0 HWA0 HWB0
        clear h9
        go_wp2_with fail
        clear p0 q0 p1 q1 p2 q2 p3 q3 p4 q4 p5 q5 p6 q6 p7 q7 p8 q8 p9 q9 p10 q10
        obtain ⟨G1, hG1⟩ : ∃ G1, G1 = gk := ⟨_, rfl⟩
        subst hG1
        go_loopw [8] (fun jv Wx => ∃ (j : Nat), jv = .int .i64 (j : Int) ∧ j ≤ SN ∧ Keeps (fun _ => False) w9 Wx) (fun jv _ => SN - (intOf jv).toNat)
        case atStart => exact ⟨0, rfl, Nat.zero_le _, HK9.out⟩
        case round =>
          obtain ⟨j, rfl, hjM, kx⟩ := hrel
          have P9 := kx.cell HP9.out (fun e => e)
          have Q9 := kx.cell HQ9.out (fun e => e)
          by_cases hlk : j < SN
          · have k1 : decide ((j : Int) < (SN : Int)) = true := decide_eq_true (by omega)
            have k2 : decide (j < SN) = true := decide_eq_true hlk
            have k3 : (j : Int) < (SN : Int) := by omega
            have k4 : (0 : Int) ≤ (j : Int) := by omega
            have kw : IntKind.i64.wrap ((j : Int) + 1) = (j : Int) + 1 := by rw [IntKind.wrap_i64]; omega
            obtain ⟨ba, oa, ea, c1⟩ := HSA.out wr kx j (by rw [HLSN.out]; exact hlk)
            obtain ⟨bb, ob, eb, c2⟩ := HSB.out wr kx j (by rw [HLSN.out]; exact hlk)
            generalize sl.getD j sw0 = x at *
            rw [ea] at P9
            rw [eb] at Q9
            have HR1 : Hid (∀ w', (∃ u : KS wr, w' = u.1) → (loadVar 46 ⟨ba, oa + j * 9, none⟩).run Try.prog w' = .ok (.agg x.cells.toArray) w') := by
              rintro _ ⟨u, rfl⟩
              exact run_swAt (fun j v e => u.property.cell (c1 j v e) (fun e => e))
            have HR2 : Hid (∀ w', (∃ u : KS wr, w' = u.1) → (loadVar 46 ⟨bb, ob + j * 9, none⟩).run Try.prog w' = .ok (.agg x.cells.toArray) w') := by
              rintro _ ⟨u, rfl⟩
              exact run_swAt (fun j v e => u.property.cell (c2 j v e) (fun e => e))
            have HE : Hid (∀ w, (Op.equalIn 10000 46 (.agg x.cells.toArray) (.agg x.cells.toArray)).run Try.prog w = .ok true w) := fun w => eql_swL x w
            have hNE : Nonempty (KS wr) := ⟨⟨wr, Keeps.refl _ wr⟩⟩
            have P9k := ks_cell P9
            have Q9k := ks_cell Q9
            clear c1 c2 ea eb
            go_wp2_with fail
            clear P9 Q9
            refine wp_region_ks (by kernel_rfl) (by kernel_rfl) ?_
            (repeat (first | go_big_quiet_skip | (refine wpQuiet_load (by kernel_rfl) 46 _ rfl ⟨ba, oa + j * 9, none⟩ rfl _ HR1.out ?_; clear HR1; (try simp only [Act.put, List.setIfInBounds_toArray, List.set_cons_zero, List.set_cons_succ])) | (refine wpQuiet_load (by kernel_rfl) 46 _ rfl ⟨bb, ob + j * 9, none⟩ rfl _ HR2.out ?_; clear HR2; (try simp only [Act.put, List.setIfInBounds_toArray, List.set_cons_zero, List.set_cons_succ])) | (refine wpQuiet_neq (by kernel_rfl) 46 _ _ _ rfl _ _ rfl rfl true (by kernel_rfl) HE.out ?_; (try simp only [Act.put, List.setIfInBounds_toArray, List.set_cons_zero, List.set_cons_succ])) | (go_big_quiet_step (fail))))
            refine wpQuiet_nil ?_
            rintro _ ⟨u, rfl⟩
            have ku := kx.trans u.property
            generalize u.val = wu at *
            clear hNE P9k Q9k
            go_wp2_with fail
            go_roundw
            case rel => exact ⟨j + 1, by go_num, by omega, ku⟩
            case measure => simp [intOf]; omega
          · have k1 : decide ((j : Int) < (SN : Int)) = false := decide_eq_false (by omega)
            have k2 : decide (j < SN) = false := decide_eq_false hlk
            have HKX : Hid (Keeps (fun _ => False) w9 wr) := kx
            clear kx
            have p10 := HKX.out.cell HP10.out (fun e => e)
            go_wp2_with fail
            clear p10
            go_loopw [9] (fun jv Wx => ∃ (j : Nat), jv = .int .i64 (j : Int) ∧ j ≤ M ∧ Keeps (fun _ => False) w9 Wx) (fun jv _ => M - (intOf jv).toNat)
            case atStart => exact ⟨0, rfl, Nat.zero_le _, HKX.out⟩
            case round =>
              obtain ⟨j, rfl, hjM, kx⟩ := hrel
              have P9 := kx.cell HP10.out (fun e => e)
              have Q9 := kx.cell HQ10.out (fun e => e)
              by_cases hlk : j < M
              · have k1 : decide ((j : Int) < (M : Int)) = true := decide_eq_true (by omega)
                have k2 : decide (j < M) = true := decide_eq_true hlk
                have k3 : (j : Int) < (M : Int) := by omega
                have k4 : (0 : Int) ≤ (j : Int) := by omega
                have kw : IntKind.i64.wrap ((j : Int) + 1) = (j : Int) + 1 := by rw [IntKind.wrap_i64]; omega
                obtain ⟨ba, oa, ea, c1⟩ := HWA.out wr kx j (by rw [HLM.out]; exact hlk)
                obtain ⟨bb, ob, eb, c2⟩ := HWB.out wr kx j (by rw [HLM.out]; exact hlk)
                generalize wl.getD j wo0 = x at *
                rw [ea] at P9
                rw [eb] at Q9
                have HR1 : Hid (∀ w', (∃ u : KS wr, w' = u.1) → (loadVar 48 ⟨ba, oa + j * 4, none⟩).run Try.prog w' = .ok (.agg x.cells.toArray) w') := by
                  rintro _ ⟨u, rfl⟩
                  exact run_woAt (fun j v e => u.property.cell (c1 j v e) (fun e => e))
                have HR2 : Hid (∀ w', (∃ u : KS wr, w' = u.1) → (loadVar 48 ⟨bb, ob + j * 4, none⟩).run Try.prog w' = .ok (.agg x.cells.toArray) w') := by
                  rintro _ ⟨u, rfl⟩
                  exact run_woAt (fun j v e => u.property.cell (c2 j v e) (fun e => e))
                have HE : Hid (∀ w, (Op.equalIn 10000 48 (.agg x.cells.toArray) (.agg x.cells.toArray)).run Try.prog w = .ok true w) := fun w => eql_woL x w
                have hNE : Nonempty (KS wr) := ⟨⟨wr, Keeps.refl _ wr⟩⟩
                have P9k := ks_cell P9
                have Q9k := ks_cell Q9
                clear c1 c2 ea eb
                go_wp2_with fail
                clear P9 Q9
                refine wp_region_ks (by kernel_rfl) (by kernel_rfl) ?_
                (repeat (first | go_big_quiet_skip | (refine wpQuiet_load (by kernel_rfl) 48 _ rfl ⟨ba, oa + j * 4, none⟩ rfl _ HR1.out ?_; clear HR1; (try simp only [Act.put, List.setIfInBounds_toArray, List.set_cons_zero, List.set_cons_succ])) | (refine wpQuiet_load (by kernel_rfl) 48 _ rfl ⟨bb, ob + j * 4, none⟩ rfl _ HR2.out ?_; clear HR2; (try simp only [Act.put, List.setIfInBounds_toArray, List.set_cons_zero, List.set_cons_succ])) | (refine wpQuiet_neq (by kernel_rfl) 48 _ _ _ rfl _ _ rfl rfl true (by kernel_rfl) HE.out ?_; (try simp only [Act.put, List.setIfInBounds_toArray, List.set_cons_zero, List.set_cons_succ])) | (go_big_quiet_step (fail))))
                refine wpQuiet_nil ?_
                rintro _ ⟨u, rfl⟩
                have ku := kx.trans u.property
                generalize u.val = wu at *
                clear hNE P9k Q9k
                go_wp2_with fail
                go_roundw
                case rel => exact ⟨j + 1, by go_num, by omega, ku⟩
                case measure => simp [intOf]; omega
              · have k1 : decide ((j : Int) < (M : Int)) = false := decide_eq_false (by omega)
                have k2 : decide (j < M) = false := decide_eq_false hlk
                go_wp2_with fail
                go_roundg (G1 - 1)
                case measure => omega
                case rel => exact ⟨i + 1, by omega, by go_num, by omega, HK09.out.trans kx⟩
      · refine wp_allocTx rfl ?_
        refine ⟨hHeld.alloc _, fun _ => ?_⟩
        (try simp only [List.getElem_toArray]); (try simp only [List.getElem_cons_succ]); (try simp only [List.getElem_cons_zero]); (try simp only [Act.put]); (try simp only [List.setIfInBounds_toArray]); (repeat first | simp only [List.set_cons_succ] | simp only [List.set_cons_zero])
        refine wpAnyH_one 8 (by kernel_rfl) rfl rfl ?_
        refine wp_allocTx rfl ?_
        refine ⟨hK2, fun _ => ?_⟩
        (try simp only [List.getElem_toArray]); (try simp only [List.getElem_cons_succ]); (try simp only [List.getElem_cons_zero]); (try simp only [Act.put]); (try simp only [List.setIfInBounds_toArray]); (repeat first | simp only [List.set_cons_succ] | simp only [List.set_cons_zero])
        rw [hsz]
        have m6 : CL ((wr.drew.alloc (.cells #[.int .i64 0, .int .i64 0, .int .i64 0, .int .i64 0, .int .i64 0, .int .i64 0, .int .i64 0, .int .i64 0, .int .i64 0, .slice none 0 0, .slice none 0 0] 32)).alloc (.cells #[.int .i64 0, .int .i64 0, .int .i64 0, .int .i64 0, .int .i64 0, .int .i64 0, .int .i64 0, .int .i64 0, .int .i64 0, .slice none 0 0, .slice none 0 0] 32)) (wr.heap.size + 1) (tv0.clp ⟨none, 0, none, 0⟩) := mk2
        have m7 : CL ((wr.drew.alloc (.cells #[.int .i64 0, .int .i64 0, .int .i64 0, .int .i64 0, .int .i64 0, .int .i64 0, .int .i64 0, .int .i64 0, .int .i64 0, .slice none 0 0, .slice none 0 0] 32)).alloc (.cells #[.int .i64 0, .int .i64 0, .int .i64 0, .int .i64 0, .int .i64 0, .int .i64 0, .int .i64 0, .int .i64 0, .int .i64 0, .slice none 0 0, .slice none 0 0] 32)) (wr.heap.size) (tv0.clp ⟨none, 0, none, 0⟩) := mk1
        have q6 := store_tx m6 tv qa
        have m7b := m7.keep (by show 0 < 11; decide) q6.2 (fun e => by have e : wr.heap.size = wr.heap.size + 1 := e; omega)
        have q7 := store_tx m7b tv qb
        have K3 : Keeps (fun _ => False) wr (((wr.drew.alloc (.cells #[.int .i64 0, .int .i64 0, .int .i64 0, .int .i64 0, .int .i64 0, .int .i64 0, .int .i64 0, .int .i64 0, .int .i64 0, .slice none 0 0, .slice none 0 0] 32)).alloc (.cells #[.int .i64 0, .int .i64 0, .int .i64 0, .int .i64 0, .int .i64 0, .int .i64 0, .int .i64 0, .int .i64 0, .int .i64 0, .slice none 0 0, .slice none 0 0] 32)).setCells (wr.heap.size + 1) 0 (tv.clp qa).toArray.toList) := hK2.trans' q6.2 (fun _ _ e => e) (fun i hi e => by have e : i = wr.heap.size + 1 := e; omega)
        have K4 : Keeps (fun _ => False) wr ((((wr.drew.alloc (.cells #[.int .i64 0, .int .i64 0, .int .i64 0, .int .i64 0, .int .i64 0, .int .i64 0, .int .i64 0, .int .i64 0, .int .i64 0, .slice none 0 0, .slice none 0 0] 32)).alloc (.cells #[.int .i64 0, .int .i64 0, .int .i64 0, .int .i64 0, .int .i64 0, .int .i64 0, .int .i64 0, .int .i64 0, .int .i64 0, .slice none 0 0, .slice none 0 0] 32)).setCells (wr.heap.size + 1) 0 (tv.clp qa).toArray.toList).setCells (wr.heap.size) 0 (tv.clp qb).toArray.toList) := K3.trans' q7.2 (fun _ _ e => e) (fun i hi e => by have e : i = wr.heap.size := e; omega)
        have C6 := q6.1.keep (by show 0 < 11; decide) q7.2 (fun e => by have e : wr.heap.size + 1 = wr.heap.size := e; omega)
        have C7 := q7.1
        refine wpAnyH_store 10 (by kernel_rfl) rfl rfl 32 _ _ rfl (wr.heap.size + 1) 0 11 _ rfl rfl rfl (m6.there (by show 0 + 11 ≤ 11; decide)) iTx (all_oneCell_toArray (tx_one tv qa)) K3 (fun _ => ?_)
        (try simp only [List.getElem_toArray]); (try simp only [List.getElem_cons_succ]); (try simp only [List.getElem_cons_zero]); (try simp only [Act.put]); (try simp only [List.setIfInBounds_toArray]); (repeat first | simp only [List.set_cons_succ] | simp only [List.set_cons_zero])
        refine wpAnyH_store 11 (by kernel_rfl) rfl rfl 32 _ _ rfl (wr.heap.size) 0 11 _ rfl rfl rfl (m7b.there (by show 0 + 11 ≤ 11; decide)) iTx (all_oneCell_toArray (tx_one tv qb)) K4 (fun _ => ?_)
        (try simp only [List.getElem_toArray]); (try simp only [List.getElem_cons_succ]); (try simp only [List.getElem_cons_zero]); (try simp only [Act.put]); (try simp only [List.setIfInBounds_toArray]); (repeat first | simp only [List.set_cons_succ] | simp only [List.set_cons_zero])
        refine wpAnyH_done (by kernel_rfl) ?_ _
        clear K3 m6 m7 m7b q6 q7 hHeld hK2 mk1 mk2 hsz
        generalize h9 : World.setCells _ _ _ _ = w9 at *
        have HK9 : Hid (Keeps (fun _ => False) w9 w9) := Keeps.refl _ _
        have HK09 : Hid (Keeps (fun _ => False) w w9) := kr.trans K4
        rw [HCA.out] at C6
        rw [HCB.out] at C7
        have p0 := C6.c 0 _ rfl
        have q0 := C7.c 0 _ rfl
        have p1 := C6.c 1 _ rfl
        have q1 := C7.c 1 _ rfl
        have p2 := C6.c 2 _ rfl
        have q2 := C7.c 2 _ rfl
        have p3 := C6.c 3 _ rfl
        have q3 := C7.c 3 _ rfl
        have p4 := C6.c 4 _ rfl
        have q4 := C7.c 4 _ rfl
        have p5 := C6.c 5 _ rfl
        have q5 := C7.c 5 _ rfl
        have p6 := C6.c 6 _ rfl
        have q6 := C7.c 6 _ rfl
        have p7 := C6.c 7 _ rfl
        have q7 := C7.c 7 _ rfl
        have p8 := C6.c 8 _ rfl
        have q8 := C7.c 8 _ rfl
        have p9 := C6.c 9 _ rfl
        have q9 := C7.c 9 _ rfl
        have p10 := C6.c 10 _ rfl
        have q10 := C7.c 10 _ rfl
        have HP9 : Hid (w9.cell? ⟨wr.heap.size + 1, 9, none⟩ = some (.slice qa.sa SN qa.sc)) := p9
        have HQ9 : Hid (w9.cell? ⟨wr.heap.size, 9, none⟩ = some (.slice qb.sa SN qb.sc)) := q9
        have HP10 : Hid (w9.cell? ⟨wr.heap.size + 1, 10, none⟩ = some (.slice qa.wa M qa.wc)) := p10
        have HQ10 : Hid (w9.cell? ⟨wr.heap.size, 10, none⟩ = some (.slice qb.wa M qb.wc)) := q10
        have HSA : Hid (∀ W, Keeps (fun _ => False) w9 W → SWM W qa.sa sl) := fun W k => HSA0.out W (HK09.out.trans k)
        have HSB : Hid (∀ W, Keeps (fun _ => False) w9 W → SWM W qb.sa sl) := fun W k => HSB0.out W (HK09.out.trans k)
        have HWA : Hid (∀ W, Keeps (fun _ => False) w9 W → WOM W qa.wa wl) := fun W k => HWA0.out W (HK09.out.trans k)
        have HWB : Hid (∀ W, Keeps (fun _ => False) w9 W → WOM W qb.wa wl) := fun W k => HWB0.out W (HK09.out.trans k)
        clear C6 C7 K4 kr HSA0 HSB0 HWA0 HWB0
        clear h9
        go_wp2_with fail
        clear p0 q0 p1 q1 p2 q2 p3 q3 p4 q4 p5 q5 p6 q6 p7 q7 p8 q8 p9 q9 p10 q10
        obtain ⟨G1, hG1⟩ : ∃ G1, G1 = gk := ⟨_, rfl⟩
        subst hG1
        go_loopw [8] (fun jv Wx => ∃ (j : Nat), jv = .int .i64 (j : Int) ∧ j ≤ SN ∧ Keeps (fun _ => False) w9 Wx) (fun jv _ => SN - (intOf jv).toNat)
        case atStart => exact ⟨0, rfl, Nat.zero_le _, HK9.out⟩
        case round =>
          obtain ⟨j, rfl, hjM, kx⟩ := hrel
          have P9 := kx.cell HP9.out (fun e => e)
          have Q9 := kx.cell HQ9.out (fun e => e)
          by_cases hlk : j < SN
          · have k1 : decide ((j : Int) < (SN : Int)) = true := decide_eq_true (by omega)
            have k2 : decide (j < SN) = true := decide_eq_true hlk
            have k3 : (j : Int) < (SN : Int) := by omega
            have k4 : (0 : Int) ≤ (j : Int) := by omega
            have kw : IntKind.i64.wrap ((j : Int) + 1) = (j : Int) + 1 := by rw [IntKind.wrap_i64]; omega
            obtain ⟨ba, oa, ea, c1⟩ := HSA.out wr kx j (by rw [HLSN.out]; exact hlk)
            obtain ⟨bb, ob, eb, c2⟩ := HSB.out wr kx j (by rw [HLSN.out]; exact hlk)
            generalize sl.getD j sw0 = x at *
            rw [ea] at P9
            rw [eb] at Q9
            have HR1 : Hid (∀ w', (∃ u : KS wr, w' = u.1) → (loadVar 46 ⟨ba, oa + j * 9, none⟩).run Try.prog w' = .ok (.agg x.cells.toArray) w') := by
              rintro _ ⟨u, rfl⟩
              exact run_swAt (fun j v e => u.property.cell (c1 j v e) (fun e => e))
            have HR2 : Hid (∀ w', (∃ u : KS wr, w' = u.1) → (loadVar 46 ⟨bb, ob + j * 9, none⟩).run Try.prog w' = .ok (.agg x.cells.toArray) w') := by
              rintro _ ⟨u, rfl⟩
              exact run_swAt (fun j v e => u.property.cell (c2 j v e) (fun e => e))
            have HE : Hid (∀ w, (Op.equalIn 10000 46 (.agg x.cells.toArray) (.agg x.cells.toArray)).run Try.prog w = .ok true w) := fun w => eql_swL x w
            have hNE : Nonempty (KS wr) := ⟨⟨wr, Keeps.refl _ wr⟩⟩
            have P9k := ks_cell P9
            have Q9k := ks_cell Q9
            clear c1 c2 ea eb
            go_wp2_with fail
            clear P9 Q9
            refine wp_region_ks (by kernel_rfl) (by kernel_rfl) ?_
            (repeat (first | go_big_quiet_skip | (refine wpQuiet_load (by kernel_rfl) 46 _ rfl ⟨ba, oa + j * 9, none⟩ rfl _ HR1.out ?_; clear HR1; (try simp only [Act.put, List.setIfInBounds_toArray, List.set_cons_zero, List.set_cons_succ])) | (refine wpQuiet_load (by kernel_rfl) 46 _ rfl ⟨bb, ob + j * 9, none⟩ rfl _ HR2.out ?_; clear HR2; (try simp only [Act.put, List.setIfInBounds_toArray, List.set_cons_zero, List.set_cons_succ])) | (refine wpQuiet_neq (by kernel_rfl) 46 _ _ _ rfl _ _ rfl rfl true (by kernel_rfl) HE.out ?_; (try simp only [Act.put, List.setIfInBounds_toArray, List.set_cons_zero, List.set_cons_succ])) | (go_big_quiet_step (fail))))
            refine wpQuiet_nil ?_
            rintro _ ⟨u, rfl⟩
            have ku := kx.trans u.property
            generalize u.val = wu at *
            clear hNE P9k Q9k
            go_wp2_with fail
            go_roundw
            case rel => exact ⟨j + 1, by go_num, by omega, ku⟩
            case measure => simp [intOf]; omega
          · have k1 : decide ((j : Int) < (SN : Int)) = false := decide_eq_false (by omega)
            have k2 : decide (j < SN) = false := decide_eq_false hlk
            have HKX : Hid (Keeps (fun _ => False) w9 wr) := kx
            clear kx
            have p10 := HKX.out.cell HP10.out (fun e => e)
            go_wp2_with fail
            clear p10
            go_loopw [9] (fun jv Wx => ∃ (j : Nat), jv = .int .i64 (j : Int) ∧ j ≤ M ∧ Keeps (fun _ => False) w9 Wx) (fun jv _ => M - (intOf jv).toNat)
            case atStart => exact ⟨0, rfl, Nat.zero_le _, HKX.out⟩
            case round =>
              obtain ⟨j, rfl, hjM, kx⟩ := hrel
              have P9 := kx.cell HP10.out (fun e => e)
              have Q9 := kx.cell HQ10.out (fun e => e)
              by_cases hlk : j < M
              · have k1 : decide ((j : Int) < (M : Int)) = true := decide_eq_true (by omega)
                have k2 : decide (j < M) = true := decide_eq_true hlk
                have k3 : (j : Int) < (M : Int) := by omega
                have k4 : (0 : Int) ≤ (j : Int) := by omega
                have kw : IntKind.i64.wrap ((j : Int) + 1) = (j : Int) + 1 := by rw [IntKind.wrap_i64]; omega
                obtain ⟨ba, oa, ea, c1⟩ := HWA.out wr kx j (by rw [HLM.out]; exact hlk)
                obtain ⟨bb, ob, eb, c2⟩ := HWB.out wr kx j (by rw [HLM.out]; exact hlk)
                generalize wl.getD j wo0 = x at *
                rw [ea] at P9
                rw [eb] at Q9
                have HR1 : Hid (∀ w', (∃ u : KS wr, w' = u.1) → (loadVar 48 ⟨ba, oa + j * 4, none⟩).run Try.prog w' = .ok (.agg x.cells.toArray) w') := by
                  rintro _ ⟨u, rfl⟩
                  exact run_woAt (fun j v e => u.property.cell (c1 j v e) (fun e => e))
                have HR2 : Hid (∀ w', (∃ u : KS wr, w' = u.1) → (loadVar 48 ⟨bb, ob + j * 4, none⟩).run Try.prog w' = .ok (.agg x.cells.toArray) w') := by
                  rintro _ ⟨u, rfl⟩
                  exact run_woAt (fun j v e => u.property.cell (c2 j v e) (fun e => e))
                have HE : Hid (∀ w, (Op.equalIn 10000 48 (.agg x.cells.toArray) (.agg x.cells.toArray)).run Try.prog w = .ok true w) := fun w => eql_woL x w
                have hNE : Nonempty (KS wr) := ⟨⟨wr, Keeps.refl _ wr⟩⟩
                have P9k := ks_cell P9
                have Q9k := ks_cell Q9
                clear c1 c2 ea eb
                go_wp2_with fail
                clear P9 Q9
                refine wp_region_ks (by kernel_rfl) (by kernel_rfl) ?_
                (repeat (first | go_big_quiet_skip | (refine wpQuiet_load (by kernel_rfl) 48 _ rfl ⟨ba, oa + j * 4, none⟩ rfl _ HR1.out ?_; clear HR1; (try simp only [Act.put, List.setIfInBounds_toArray, List.set_cons_zero, List.set_cons_succ])) | (refine wpQuiet_load (by kernel_rfl) 48 _ rfl ⟨bb, ob + j * 4, none⟩ rfl _ HR2.out ?_; clear HR2; (try simp only [Act.put, List.setIfInBounds_toArray, List.set_cons_zero, List.set_cons_succ])) | (refine wpQuiet_neq (by kernel_rfl) 48 _ _ _ rfl _ _ rfl rfl true (by kernel_rfl) HE.out ?_; (try simp only [Act.put, List.setIfInBounds_toArray, List.set_cons_zero, List.set_cons_succ])) | (go_big_quiet_step (fail))))
                refine wpQuiet_nil ?_
                rintro _ ⟨u, rfl⟩
                have ku := kx.trans u.property
                generalize u.val = wu at *
                clear hNE P9k Q9k
                go_wp2_with fail
                go_roundw
                case rel => exact ⟨j + 1, by go_num, by omega, ku⟩
                case measure => simp [intOf]; omega
              · have k1 : decide ((j : Int) < (M : Int)) = false := decide_eq_false (by omega)
                have k2 : decide (j < M) = false := decide_eq_false hlk
                go_wp2_with fail
                go_roundg (G1 - 1)
                case measure => omega
                case rel => exact ⟨i + 1, by omega, by go_num, by omega, HK09.out.trans kx⟩
    · have j1 : decide ((i : Int) < (N : Int)) = false := decide_eq_false (by omega)
      have j2 : decide (i < N) = false := decide_eq_false hlt
      go_wp2_with fail
      go_ret
      exact ⟨rfl, kr⟩
end Go.Proofs.Ythmlppepgcjfgaa
