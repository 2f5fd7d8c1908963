import Derived.Test.YtfbbllokpikbiabGrB
namespace Go.Proofs.Ytfbbllokpikbiab
open Go.RowKit Go.Maps Go.ChangeMaps Go.MapKept Go.WideShapes
attribute [local go_sem] Oper.semAt_some run_store_nf run_store_f
/-- An edge's two nodes in memory. -/
structure E2 (W : World) (b : Nat) (x y : Int) : Prop where
  c0 : W.cell? ⟨b, 0, none⟩ = some (.int .i64 x)
  c1 : W.cell? ⟨b, 1, none⟩ = some (.int .i64 y)
theorem E2.keep {W W' : World} {b : Nat} {x y : Int} {S : Nat → Prop} (h : E2 W b x y) (k : Keeps S W W') (hS : ¬ S b) : E2 W' b x y := ⟨k.cell h.c0 hS, k.cell h.c1 hS⟩
theorem E2.of {W : World} {b : Nat} {c : Eg} (h : CL W b c.ed.cells) : E2 W b (c.f : Int) (c.t : Int) := ⟨h.c 0 _ rfl, h.c 1 _ rfl⟩
set_option maxHeartbeats 600000 in
set_option maxRecDepth 100000 in
theorem leadsOf_any {w : World} {a : Option Addr} {cap n : Nat} {g : List Eg} (hl : EL w a (g.map Eg.ed)) (hb : Bln g n) (hn : n ≤ 4096) (hlen : g.length ≤ 4398046511104) : Calls Try.prog 18 #[.slice a g.length cap] w fun e w' => ∃ mb, e = .returned (.map (some mb)) ∧ LR w' w.heap.size w'.heap.size mb g ∧ Keeps (fun _ => False) w w' := by
  have HL : Hid (EL w a (g.map Eg.ed)) := hl
  have HB : Hid (Bln g n) := hb
  clear hl hb
  obtain ⟨W1, hW1⟩ : ∃ W1, W1 = w.alloc (.map #[] 0) := ⟨_, rfl⟩
  have k1 : Keeps (fun _ => False) w W1 := by rw [hW1]; exact (Keeps.refl _ w).alloc _
  have HLD1 : Hid (LD W1 w.heap.size w.heap.size [] 0 (fun _ => none)) := by rw [hW1]; exact LD.start w
  have hmm : (Instr.makeMap 50 none).run Try.prog w = .ok (.map (some w.heap.size)) W1 := by rw [hW1]; exact run_makeMap _ _
  clear hW1
  generalize hN : g.length = N at *
  have HN : Hid (g.length = N) := hN
  clear hN
  go_enter Try.func18, Try.ntmps18
  go_wp2_with fail
  go_loopw [9] (fun iv Wr => ∃ (i cnt : Nat) (f : Int → Option Value), iv = .int .i64 (i : Int) ∧ i ≤ N ∧ LD Wr w.heap.size w.heap.size (g.take i) cnt f ∧ Keeps (fun _ => False) w Wr) (fun iv _ => N - (intOf iv).toNat)
  case atStart => exact ⟨0, 0, _, rfl, Nat.zero_le _, HLD1.out, k1⟩
  case round =>
    obtain ⟨i, cnt, f, rfl, hi, hld, kr⟩ := hrel
    have HLD : Hid (LD wr w.heap.size w.heap.size (g.take i) cnt f) := hld
    have HK : Hid (Keeps (fun _ => False) w wr) := kr
    clear hld k1 HLD1
    by_cases hlt : i < N
    · have j1 : decide ((i : Int) < (N : Int)) = true := decide_eq_true (by omega)
      have j2 : decide (i < N) = true := decide_eq_true hlt
      have j3 : (i : Int) < (N : Int) := by omega
      have j4 : (0 : Int) ≤ (i : Int) := by omega
      have hwi : IntKind.i64.wrap ((i : Int) + 1) = (i : Int) + 1 := by rw [IntKind.wrap_i64]; omega
      have hil : i < g.length := by rw [HN.out]; exact hlt
      obtain ⟨b, off, rfl, hc⟩ := HL.out i (by rw [List.length_map]; exact hil)
      rw [(eg_at hil).1] at hc
      have hR := run_ed (W := wr) (fun j v e => kr.cell (hc j v e) (fun e => e))
      have HTK : Hid (g.take (i + 1) = g.take i ++ [g.getD i eg0]) := take_eg hil
      have hcb := HB.out _ (eg_at hil).2
      have HWB : Hid (w.heap.size ≤ wr.heap.size) := kr.size
      have HLE : Hid ((ldN (g.take i) (g.getD i eg0).f).length ≤ 4398046511104) := by
        have h1 := ldN_len (g.take i) (g.getD i eg0).f
        rw [List.length_take] at h1
        show _ ≤ _
        omega
      clear hc hil
      generalize g.getD i eg0 = c at *
      have hOC := all_oneCell_ed c.ed
      obtain ⟨W4, hW4⟩ : ∃ W4, W4 = wr.alloc (.cells #[.int .i64 0, .int .i64 0, .int .i64 0, .int .i64 0] 30) := ⟨_, rfl⟩
      have k4 : Keeps (fun _ => False) wr W4 := by rw [hW4]; exact (Keeps.refl _ wr).alloc _
      have hU4 : CL W4 wr.heap.size ed0.cells := by rw [hW4]; exact CL.made wr ed0.cells _
      have HW4 : Hid (W4 = wr.alloc (.cells #[.int .i64 0, .int .i64 0, .int .i64 0, .int .i64 0] 30)) := hW4
      clear hW4 kr
      refine wp_seq_k (fun KK hKK => ?_)
      have hKH : Hid _ := hKK
      clear hKK
      go_wp2_with fail
      refine hKH.out _ _ ?_
      clear hKH KK
      go_wp2_with (first | (refine wpList_load_runL rfl 30 _ rfl ⟨b, off + i * 4, none⟩ rfl _ hR ?_; clear hR) | (rw [← HW4.out]; clear HW4; refine wpList_store_cl rfl 30 _ _ rfl wr.heap.size 0 4 _ rfl rfl rfl hU4 (by show 4 ≤ 4; decide) iEd hOC ?_; intro w5 hc5 k5 hsz5; clear hsz5; have hI5 : CL w5 wr.heap.size c.ed.cells := hc5; clear hc5; have K45 : Keeps (fun _ => False) wr w5 := k4.trans' k5 (fun _ _ e => e) (fun i hi e => (by have e : i = wr.heap.size := e; omega)); clear k4 k5 hU4; skip))
      have kd : Keeps (fun _ => False) wr w5.drew := K45.trans ((Keeps.refl _ w5).drew)
      have hLd := HLD.out.keep kd
      obtain ⟨s, e1, ho0, hs⟩ := HLD.out.at c.f
      obtain ⟨sa, sc, rfl, -⟩ := own_slice ho0
      have hoD := kd.owns ho0 (fun _ _ e => e)
      have hk : I64 ((c.f : Nat) : Int) := ⟨by omega, by omega⟩
      have hlook := hLd.m.look underLd (zeroSl _) hk
      rw [e1] at hlook
      have ka := (Keeps.refl (fun _ => False) w5.drew).alloc (.cells #[.int .i64 ((c.t : Nat) : Int)] 3)
      have hlook2 := (hLd.keep ka).m.look underLd (zeroSl _) hk
      rw [e1] at hlook2
      obtain ⟨a1, c1, X1, hr1, ho1, kq, hbq⟩ := append_n hoD (by have := kd.size; have := HWB.out; omega) (by have := HLE.out; omega) c.t
      have nB : (Value.slice sa (ldN (g.take i) c.f).length sc).ownBlock ≠ some wr.heap.size := fun e => by have := owns_lt' ho0 _ e; omega
      have nM : (Value.slice sa (ldN (g.take i) c.f).length sc).ownBlock ≠ some w.heap.size := row_map ho0 HLD.out.m
      have hS0 : E2 w5.drew wr.heap.size (c.f : Int) (c.t : Int) := (E2.of hI5).keep ((Keeps.refl (fun _ => False) w5).drew) (fun e => e)
      have hSa : E2 (w5.drew.alloc (.cells #[.int .i64 ((c.t : Nat) : Int)] 3)) wr.heap.size (c.f : Int) (c.t : Int) := hS0.keep ka (fun e => e)
      have hS9 : E2 X1 wr.heap.size (c.f : Int) (c.t : Int) := hS0.keep kq nB
      obtain ⟨X2, hup, hmv2, k2⟩ := (hLd.m.keep kq nM).put underLd hk (.slice a1 ((ldN (g.take i) c.f).length + 1) c1) (by have := hLd.n; rw [List.length_take] at this; omega)
      have hmb := HLD.out.m.lt
      have hSx : E2 X2 wr.heap.size (c.f : Int) (c.t : Int) := hS9.keep k2 (fun e => by have e : wr.heap.size = w.heap.size := e; omega)
      have HLD2 : Hid (∃ cnt2 f2, LD X2 w.heap.size w.heap.size (g.take (i + 1)) cnt2 f2) := by
        show ∃ cnt2 f2, _
        rw [HTK.out]
        exact ⟨_, _, hLd.next c hs e1 kq ho1 (hbq.imp id (fun e => ⟨_, e, by omega⟩)) hmv2 k2⟩
      have HK2 : Hid (Keeps (fun _ => False) w X2) := ((HK.out.trans kd).trans' kq (U := fun i => w.heap.size ≤ i) (fun _ _ e => e.elim) (fun i hi e => owns_baseT ho0 i e)).trans' k2 (fun i hi e => by have e : w.heap.size ≤ i := e; omega) (fun i hi e => by have e : i = w.heap.size := e; omega)
      clear hLd hoD kq k2 hmv2 ho1 hbq ho0 hs e1 kd ka nB nM hmb hI5 K45
      generalize (ldN (g.take i) c.f).length = M at *
      generalize ((c.f : Nat) : Int) = cf at *
      generalize ((c.t : Nat) : Int) = ct at *
      refine wp_region_held_drew (S := fun W => E2 W wr.heap.size cf ct) (by kernel_rfl) hS0 (fun hHeld => ?_)
      refine wpAnyH_take (i := 0) (v := ?_) rfl (by kernel_rfl) (by kernel_rfl) (by kernel_rfl) (fun _ _ _ h => h) (Or.inl ⟨by rfl, ?_⟩) (by assumption) ?_
      rotate_left
      · intro wx hSw; clear hSw; go_simp <;> with_reducible rfl
      (try simp only [List.getElem_toArray]); (try simp only [List.getElem_cons_succ]); (try simp only [List.getElem_cons_zero]); (try simp only [Act.put]); (try simp only [List.setIfInBounds_toArray]); (repeat first | simp only [List.set_cons_succ] | simp only [List.set_cons_zero])
      refine wpAnyH_take (i := 1) (v := ?_) rfl (by kernel_rfl) (by kernel_rfl) (by kernel_rfl) (fun _ _ _ h => h) (Or.inl ⟨by rfl, ?_⟩) (by assumption) ?_
      rotate_left
      · intro wx hSw; clear hSw; go_simp <;> with_reducible rfl
      (try simp only [List.getElem_toArray]); (try simp only [List.getElem_cons_succ]); (try simp only [List.getElem_cons_zero]); (try simp only [Act.put]); (try simp only [List.setIfInBounds_toArray]); (repeat first | simp only [List.set_cons_succ] | simp only [List.set_cons_zero])
      refine wpAnyH_take (i := 2) (v := ?_) rfl (by kernel_rfl) (by kernel_rfl) (by kernel_rfl) (fun _ _ _ h => h) (Or.inl ⟨by rfl, ?_⟩) (by assumption) ?_
      rotate_left
      · intro wx hSw; have q0 := hSw.c0; have q1 := hSw.c1; clear hSw; go_simp <;> with_reducible rfl
      (try simp only [List.getElem_toArray]); (try simp only [List.getElem_cons_succ]); (try simp only [List.getElem_cons_zero]); (try simp only [Act.put]); (try simp only [List.setIfInBounds_toArray]); (repeat first | simp only [List.set_cons_succ] | simp only [List.set_cons_zero])
      refine wpAnyH_take (i := 3) (v := ?_) rfl (by kernel_rfl) (by kernel_rfl) (by kernel_rfl) (fun _ _ _ h => h) (Or.inl ⟨by rfl, ?_⟩) (by assumption) ?_
      rotate_left
      · intro wx hSw; clear hSw; go_simp <;> with_reducible rfl
      (try simp only [List.getElem_toArray]); (try simp only [List.getElem_cons_succ]); (try simp only [List.getElem_cons_zero]); (try simp only [Act.put]); (try simp only [List.setIfInBounds_toArray]); (repeat first | simp only [List.set_cons_succ] | simp only [List.set_cons_zero])
      refine wpAnyH_take (i := 4) (v := ?_) rfl (by kernel_rfl) (by kernel_rfl) (by kernel_rfl) (fun _ _ _ h => h) (Or.inl ⟨by rfl, ?_⟩) (by assumption) ?_
      rotate_left
      · intro wx hSw; clear hSw; go_simp <;> with_reducible rfl
      (try simp only [List.getElem_toArray]); (try simp only [List.getElem_cons_succ]); (try simp only [List.getElem_cons_zero]); (try simp only [Act.put]); (try simp only [List.setIfInBounds_toArray]); (repeat first | simp only [List.set_cons_succ] | simp only [List.set_cons_zero])
      refine wpAnyH_take (i := 5) (v := ?_) rfl (by kernel_rfl) (by kernel_rfl) (by kernel_rfl) (fun _ _ _ h => h) (Or.inl ⟨by rfl, ?_⟩) (by assumption) ?_
      rotate_left
      · intro wx hSw; have q0 := hSw.c0; have q1 := hSw.c1; clear hSw; go_simp <;> with_reducible rfl
      (try simp only [List.getElem_toArray]); (try simp only [List.getElem_cons_succ]); (try simp only [List.getElem_cons_zero]); (try simp only [Act.put]); (try simp only [List.setIfInBounds_toArray]); (repeat first | simp only [List.set_cons_succ] | simp only [List.set_cons_zero])
      refine wpAnyH_take (i := 7) (v := ?_) rfl (by kernel_rfl) (by kernel_rfl) (by kernel_rfl) (fun _ _ _ h => h) (Or.inl ⟨by rfl, ?_⟩) (by assumption) ?_
      rotate_left
      · intro wx hSw; clear hSw; go_simp <;> with_reducible rfl
      (try simp only [List.getElem_toArray]); (try simp only [List.getElem_cons_succ]); (try simp only [List.getElem_cons_zero]); (try simp only [Act.put]); (try simp only [List.setIfInBounds_toArray]); (repeat first | simp only [List.set_cons_succ] | simp only [List.set_cons_zero])
      refine wpAnyH_take (i := 8) (v := ?_) rfl (by kernel_rfl) (by kernel_rfl) (by kernel_rfl) (fun _ _ _ h => h) (Or.inl ⟨by rfl, ?_⟩) (by assumption) ?_
      rotate_left
      · intro wx hSw; have q0 := hSw.c0; have q1 := hSw.c1; clear hSw; go_simp <;> with_reducible rfl
      (try simp only [List.getElem_toArray]); (try simp only [List.getElem_cons_succ]); (try simp only [List.getElem_cons_zero]); (try simp only [Act.put]); (try simp only [List.setIfInBounds_toArray]); (repeat first | simp only [List.set_cons_succ] | simp only [List.set_cons_zero])
      refine wpAnyH_two' 6 9 (by kernel_rfl) rfl rfl (by kernel_rfl) (by kernel_rfl) ?_ ?_
      · refine wp_lookupK 50 _ _ rfl _ _ rfl rfl _ hlook ?_
        refine ⟨hHeld, fun _ => ?_⟩
        (try simp only [List.getElem_toArray]); (try simp only [List.getElem_cons_succ]); (try simp only [List.getElem_cons_zero]); (try simp only [Act.put]); (try simp only [List.setIfInBounds_toArray]); (repeat first | simp only [List.set_cons_succ] | simp only [List.set_cons_zero])
        refine wpAnyH_one 9 (by kernel_rfl) rfl rfl ?_
        refine wp_buildK _ rfl _ rfl ?_
        refine ⟨hSa, fun hS8 => ?_⟩
        (try simp only [List.getElem_toArray]); (try simp only [List.getElem_cons_succ]); (try simp only [List.getElem_cons_zero]); (try simp only [Act.put]); (try simp only [List.setIfInBounds_toArray]); (repeat first | simp only [List.set_cons_succ] | simp only [List.set_cons_zero])
        refine wpAnyH_one 10 (by kernel_rfl) rfl rfl ?_
        refine wp_append_t _ _ 23 rfl _ _ _ X1 rfl rfl hr1 ?_
        refine ⟨hS9, fun _ => ?_⟩
        (try simp only [List.getElem_toArray]); (try simp only [List.getElem_cons_succ]); (try simp only [List.getElem_cons_zero]); (try simp only [Act.put]); (try simp only [List.setIfInBounds_toArray]); (repeat first | simp only [List.set_cons_succ] | simp only [List.set_cons_zero])
        refine wpAnyH_one 11 (by kernel_rfl) rfl rfl ?_
        refine wp_updateK 50 _ _ _ rfl _ _ _ rfl rfl rfl hup ?_
        refine ⟨hSx, fun _ => ?_⟩
        (try simp only [List.getElem_toArray]); (try simp only [List.getElem_cons_succ]); (try simp only [List.getElem_cons_zero]); (try simp only [Act.put]); (try simp only [List.setIfInBounds_toArray]); (repeat first | simp only [List.set_cons_succ] | simp only [List.set_cons_zero])
        refine wpAnyH_done (by kernel_rfl) ?_ _
        clear hSx hS9
        go_wp2_with fail
        go_roundw
        case rel =>
          obtain ⟨cnt2, f2, h2⟩ := HLD2.out
          exact ⟨i + 1, cnt2, f2, by go_num, by omega, h2, HK2.out⟩
        case measure => simp [intOf]; omega
      · refine wp_buildK _ rfl _ rfl ?_
        refine ⟨hSa, fun hS8 => ?_⟩
        (try simp only [List.getElem_toArray]); (try simp only [List.getElem_cons_succ]); (try simp only [List.getElem_cons_zero]); (try simp only [Act.put]); (try simp only [List.setIfInBounds_toArray]); (repeat first | simp only [List.set_cons_succ] | simp only [List.set_cons_zero])
        refine wpAnyH_one 6 (by kernel_rfl) rfl rfl ?_
        refine wp_lookupK 50 _ _ rfl _ _ rfl rfl _ hlook2 ?_
        refine ⟨hS8, fun _ => ?_⟩
        (try simp only [List.getElem_toArray]); (try simp only [List.getElem_cons_succ]); (try simp only [List.getElem_cons_zero]); (try simp only [Act.put]); (try simp only [List.setIfInBounds_toArray]); (repeat first | simp only [List.set_cons_succ] | simp only [List.set_cons_zero])
        refine wpAnyH_one 10 (by kernel_rfl) rfl rfl ?_
        refine wp_append_t _ _ 23 rfl _ _ _ X1 rfl rfl hr1 ?_
        refine ⟨hS9, fun _ => ?_⟩
        (try simp only [List.getElem_toArray]); (try simp only [List.getElem_cons_succ]); (try simp only [List.getElem_cons_zero]); (try simp only [Act.put]); (try simp only [List.setIfInBounds_toArray]); (repeat first | simp only [List.set_cons_succ] | simp only [List.set_cons_zero])
        refine wpAnyH_one 11 (by kernel_rfl) rfl rfl ?_
        refine wp_updateK 50 _ _ _ rfl _ _ _ rfl rfl rfl hup ?_
        refine ⟨hSx, fun _ => ?_⟩
        (try simp only [List.getElem_toArray]); (try simp only [List.getElem_cons_succ]); (try simp only [List.getElem_cons_zero]); (try simp only [Act.put]); (try simp only [List.setIfInBounds_toArray]); (repeat first | simp only [List.set_cons_succ] | simp only [List.set_cons_zero])
        refine wpAnyH_done (by kernel_rfl) ?_ _
        clear hSx hS9
        go_wp2_with fail
        go_roundw
        case rel =>
          obtain ⟨cnt2, f2, h2⟩ := HLD2.out
          exact ⟨i + 1, cnt2, f2, by go_num, by omega, h2, HK2.out⟩
        case measure => simp [intOf]; omega
    · have j1 : decide ((i : Int) < (N : Int)) = false := decide_eq_false (by omega)
      have j2 : decide (i < N) = false := decide_eq_false hlt
      have HRD : Hid (LR wr w.heap.size wr.heap.size w.heap.size g) := by
        have h := HLD.out.read
        rw [List.take_of_length_le (by rw [HN.out]; omega)] at h
        exact h
      go_wp2_with fail
      go_ret
      exact ⟨_, rfl, HRD.out, kr⟩
end Go.Proofs.Ytfbbllokpikbiab
