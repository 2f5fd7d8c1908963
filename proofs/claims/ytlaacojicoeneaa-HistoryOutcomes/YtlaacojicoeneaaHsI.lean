import Derived.Test.YtlaacojicoeneaaHsH
namespace Go.Proofs.Ytlaacojicoeneaa
open Go.RowKit
set_option maxHeartbeats 1000000 in
set_option maxRecDepth 100000 in
theorem placed_1 (w : World) {gb : Nat} {g : Nat → Int} (hB : IB w gb 14 g) {a : Option Addr} {l : List Rw} {cap : Nat} (hl : RSL w a l) (r : Rw) (th : Nat) (hk : r.kind = 1) (hG : ∀ i, i < 14 → g i + 1 ≤ 9223372036854775807 ∧ -9223372036854775808 ≤ g i) (et : r.thread = (th : Int)) (ht : th < 6) (j : Nat) (hg : g th = (j : Int)) (hj : j < l.length) (hq : (l.getD j rw0).job + 1 ≤ 9223372036854775807 ∧ -9223372036854775808 ≤ (l.getD j rw0).job ∧ (l.getD j rw0).try_ + 1 ≤ 9223372036854775807 ∧ -9223372036854775808 ≤ (l.getD j rw0).try_) : Calls Try.prog 27 #[.pointer (some ⟨gb, 0, none⟩), .slice a l.length cap, .agg r.cells.toArray] w fun e w' => e = .returned (.bool (plQ g r (l.getD j rw0))) ∧ Keeps (fun _ => False) w w' := by
  obtain ⟨w0, e0, k0, hb, hz0⟩ := rw_box w r
  have hB0 := hB.keep (by decide) k0 (fun e => e)
  have hl0 := hl.keep k0
  obtain ⟨hcl, c0, c1, c2, c3, c4, c5, c6, c7, c8, c11, c13, c17, c21, c25⟩ := hb
  clear c0 c6 c7 c8 c13 c17 c21 c25 hB hl
  rw [et] at c1
  have i1 : (0 : Int) ≤ (th : Int) := by omega
  have i2 : (th : Int) < 6 := by omega
  have i3 : decide ((th : Int) < 0) = false := decide_eq_false (by omega)
  have i4 : decide ((6 : Int) ≤ (th : Int)) = false := decide_eq_false (by omega)
  have i5 : decide (6 ≤ th) = false := decide_eq_false (by omega)
  have d0 := hB0.c th (by omega)
  have d12 := hB0.c 12 (by decide)
  have d13 := hB0.c 13 (by decide)
  have hb12 := hG 12 (by decide)
  have hb13 := hG 13 (by decide)
  rw [hg] at d0
  have i6 : decide ((0 : Int) ≤ (j : Int)) = true := decide_eq_true (by omega)
  have i7 : (0 : Int) ≤ (j : Int) := by omega
  have i8 : (j : Int) < (l.length : Int) := by omega
  have hst := rstate_some w0 hB0 hl0 (cap := cap) th j ht hg hj
  have hsm := fun W (k : Keeps (fun _ => False) w0 W) => rsame_any W (hB0.keep (by decide) k (fun e => e)) (hl0.keep k) (cap := cap) r th j et ht hg hj
  obtain ⟨b, off, rfl, hc⟩ := hl0 j hj
  clear hl0 hg hG
  generalize hN : l.length = N at *
  generalize l.getD j rw0 = q at *
  obtain ⟨hq1, hq2, hq3, hq4⟩ := hq
  have hOC := all_oneCell_rw q
  unfold plQ
  rw [hk] at c5
  rw [if_pos hk]
  have e2 := hc 2 _ rfl
  clear hc hsm hcl hk et
  generalize hsq : stR q = sq at *
  generalize q.job = qj at *
  generalize hx0 : (sq == 0) = x0
  generalize hx1 : (r.job == qj + 1) = x1
  generalize hx2 : (r.try_ == 1) = x2
  generalize hx3 : (r.no == g 12 + 1) = x3
  generalize hx4 : (r.seen == g 13) = x4
  clear hsq
  go_enter Try.func27, Try.ntmps27
  refine wp_seq_k (fun KK hKK => ?_)
  have hKH : Hid _ := hKK
  clear hKK
  go_wp2_with fail
  refine hKH.out _ _ ?_
  clear hKH KK
  rw [← e0]
  clear e0
  go_wp2_with (go_at_call 49; refine hst.mono ?_; clear hst; rintro e w1 ⟨rfl, k1⟩; replace c1 := k1.cell c1 (fun e => e); replace c2 := k1.cell c2 (fun e => e); replace c3 := k1.cell c3 (fun e => e); replace c4 := k1.cell c4 (fun e => e); replace c11 := k1.cell c11 (fun e => e); replace d0 := k1.cell d0 (fun e => e); replace d12 := k1.cell d12 (fun e => e); replace d13 := k1.cell d13 (fun e => e); replace e2 := k1.cell e2 (fun e => e); replace c5 := k1.cell c5 (fun e => e))
  have hNE := ks_ne c1
  have pc1 := ks_cell c1
  have pc2 := ks_cell c2
  have pc3 := ks_cell c3
  have pc4 := ks_cell c4
  have pc11 := ks_cell c11
  have pd0 := ks_cell d0
  have pd12 := ks_cell d12
  have pd13 := ks_cell d13
  have pe2 := ks_cell e2
  refine wp_region_ks (by kernel_rfl) (by kernel_rfl) ?_
  (repeat (go_big_quiet_step (fail)))
  refine wpQuiet_nil ?_
  rintro _ ⟨u, rfl⟩
  clear pc1 pc2 pc3 pc4 pc11 pd0 pd12 pd13 pe2
  replace c1 := u.property.cell c1 (fun e => e)
  replace c2 := u.property.cell c2 (fun e => e)
  replace c3 := u.property.cell c3 (fun e => e)
  replace c4 := u.property.cell c4 (fun e => e)
  replace c11 := u.property.cell c11 (fun e => e)
  replace d0 := u.property.cell d0 (fun e => e)
  replace d12 := u.property.cell d12 (fun e => e)
  replace d13 := u.property.cell d13 (fun e => e)
  replace e2 := u.property.cell e2 (fun e => e)
  have K1 := (k0.trans k1).trans u.property
  generalize u.val = w2 at *
  clear hNE
  go_wp2_with fail
  have hNE := ks_ne c1
  have pc1 := ks_cell c1
  have pc2 := ks_cell c2
  have pc3 := ks_cell c3
  have pc4 := ks_cell c4
  have pc11 := ks_cell c11
  have pd0 := ks_cell d0
  have pd12 := ks_cell d12
  have pd13 := ks_cell d13
  have pe2 := ks_cell e2
  refine wp_region_ks (by kernel_rfl) (by kernel_rfl) ?_
  (repeat (go_big_quiet_step (fail)))
  refine wpQuiet_nil ?_
  rintro _ ⟨u, rfl⟩
  clear pc1 pc2 pc3 pc4 pc11 pd0 pd12 pd13 pe2
  replace c1 := u.property.cell c1 (fun e => e)
  replace c2 := u.property.cell c2 (fun e => e)
  replace c3 := u.property.cell c3 (fun e => e)
  replace c4 := u.property.cell c4 (fun e => e)
  replace c11 := u.property.cell c11 (fun e => e)
  replace d0 := u.property.cell d0 (fun e => e)
  replace d12 := u.property.cell d12 (fun e => e)
  replace d13 := u.property.cell d13 (fun e => e)
  replace e2 := u.property.cell e2 (fun e => e)
  replace K1 := K1.trans u.property
  generalize u.val = w4 at *
  clear hNE
  go_wp2_with fail
  have hNE := ks_ne c1
  have pc1 := ks_cell c1
  have pc2 := ks_cell c2
  have pc3 := ks_cell c3
  have pc4 := ks_cell c4
  have pc11 := ks_cell c11
  have pd0 := ks_cell d0
  have pd12 := ks_cell d12
  have pd13 := ks_cell d13
  have pe2 := ks_cell e2
  cases x0
  · refine wp_region_ks (by kernel_rfl) (by kernel_rfl) ?_
    (repeat (go_big_quiet_step (fail)))
    refine wpQuiet_nil ?_
    rintro _ ⟨u, rfl⟩
    have K2 := K1.trans u.property
    generalize u.val = w3 at *
    go_wp2
    go_ret
    exact ⟨rfl, K2⟩
  cases x1
  · refine wp_region_ks (by kernel_rfl) (by kernel_rfl) ?_
    (repeat (go_big_quiet_step (fail)))
    refine wpQuiet_nil ?_
    rintro _ ⟨u, rfl⟩
    have K2 := K1.trans u.property
    generalize u.val = w3 at *
    go_wp2
    go_ret
    exact ⟨rfl, K2⟩
  cases x2
  · refine wp_region_ks (by kernel_rfl) (by kernel_rfl) ?_
    (repeat (go_big_quiet_step (fail)))
    refine wpQuiet_nil ?_
    rintro _ ⟨u, rfl⟩
    have K2 := K1.trans u.property
    generalize u.val = w3 at *
    go_wp2
    go_ret
    exact ⟨rfl, K2⟩
  cases x3
  · refine wp_region_ks (by kernel_rfl) (by kernel_rfl) ?_
    (repeat (go_big_quiet_step (fail)))
    refine wpQuiet_nil ?_
    rintro _ ⟨u, rfl⟩
    have K2 := K1.trans u.property
    generalize u.val = w3 at *
    go_wp2
    go_ret
    exact ⟨rfl, K2⟩
  refine wp_region_ks (by kernel_rfl) (by kernel_rfl) ?_
  (repeat (go_big_quiet_step (fail)))
  refine wpQuiet_nil ?_
  rintro _ ⟨u, rfl⟩
  have K2 := K1.trans u.property
  generalize u.val = w3 at *
  go_wp2
  go_ret
  exact ⟨rfl, K2⟩
set_option maxHeartbeats 1000000 in
set_option maxRecDepth 100000 in
theorem placed_17 (w : World) {gb : Nat} {g : Nat → Int} (hB : IB w gb 14 g) {a : Option Addr} {l : List Rw} {cap : Nat} (hl : RSL w a l) (r : Rw) (th : Nat) (hk : r.kind = 17) (hG : ∀ i, i < 14 → g i + 1 ≤ 9223372036854775807 ∧ -9223372036854775808 ≤ g i) (et : r.thread = (th : Int)) (ht : th < 6) (j : Nat) (hg : g th = (j : Int)) (hj : j < l.length) (hq : (l.getD j rw0).job + 1 ≤ 9223372036854775807 ∧ -9223372036854775808 ≤ (l.getD j rw0).job ∧ (l.getD j rw0).try_ + 1 ≤ 9223372036854775807 ∧ -9223372036854775808 ≤ (l.getD j rw0).try_) : Calls Try.prog 27 #[.pointer (some ⟨gb, 0, none⟩), .slice a l.length cap, .agg r.cells.toArray] w fun e w' => e = .returned (.bool (plQ g r (l.getD j rw0))) ∧ Keeps (fun _ => False) w w' := by
  obtain ⟨w0, e0, k0, hb, hz0⟩ := rw_box w r
  have hB0 := hB.keep (by decide) k0 (fun e => e)
  have hl0 := hl.keep k0
  obtain ⟨hcl, c0, c1, c2, c3, c4, c5, c6, c7, c8, c11, c13, c17, c21, c25⟩ := hb
  clear c0 c6 c7 c8 c13 c17 c21 c25 hB hl
  rw [et] at c1
  have i1 : (0 : Int) ≤ (th : Int) := by omega
  have i2 : (th : Int) < 6 := by omega
  have i3 : decide ((th : Int) < 0) = false := decide_eq_false (by omega)
  have i4 : decide ((6 : Int) ≤ (th : Int)) = false := decide_eq_false (by omega)
  have i5 : decide (6 ≤ th) = false := decide_eq_false (by omega)
  have d0 := hB0.c th (by omega)
  have d12 := hB0.c 12 (by decide)
  have d13 := hB0.c 13 (by decide)
  have hb12 := hG 12 (by decide)
  have hb13 := hG 13 (by decide)
  rw [hg] at d0
  have i6 : decide ((0 : Int) ≤ (j : Int)) = true := decide_eq_true (by omega)
  have i7 : (0 : Int) ≤ (j : Int) := by omega
  have i8 : (j : Int) < (l.length : Int) := by omega
  have hst := rstate_some w0 hB0 hl0 (cap := cap) th j ht hg hj
  have hsm := fun W (k : Keeps (fun _ => False) w0 W) => rsame_any W (hB0.keep (by decide) k (fun e => e)) (hl0.keep k) (cap := cap) r th j et ht hg hj
  obtain ⟨b, off, rfl, hc⟩ := hl0 j hj
  clear hl0 hg hG
  generalize hN : l.length = N at *
  generalize l.getD j rw0 = q at *
  obtain ⟨hq1, hq2, hq3, hq4⟩ := hq
  have hOC := all_oneCell_rw q
  unfold plQ
  rw [hk] at c5
  rw [if_neg (by omega), if_neg (by omega), if_pos hk]
  clear hc hk et
  generalize hsq : stR q = sq at *
  generalize eq3 r.job r.try_ r.no q.job q.try_ q.no = q3 at *
  generalize hx0 : (sq == 3) = x0
  clear hsq
  go_enter Try.func27, Try.ntmps27
  refine wp_seq_k (fun KK hKK => ?_)
  have hKH : Hid _ := hKK
  clear hKK
  go_wp2_with fail
  refine hKH.out _ _ ?_
  clear hKH KK
  rw [← e0]
  clear e0
  cases x0
  · go_wp2_with (go_at_call 49; refine hst.mono ?_; clear hst; rintro e w1 ⟨rfl, k1⟩; replace c5 := k1.cell c5 (fun e => e))
    go_ret
    exact ⟨rfl, k0.trans k1⟩
  go_wp2_with (first | (go_at_call 49; refine hst.mono ?_; clear hst; rintro e w1 ⟨rfl, k1⟩; have hR1 := run_rw (hcl.keep (by show 0 < 26; decide) k1 (fun e => e)); have hsm1 := hsm w1 k1; replace c5 := k1.cell c5 (fun e => e)) | (refine wpList_load_runG (by rfl) 39 _ rfl ⟨w.heap.size, 0, none⟩ rfl _ hR1 ?_; clear hR1) | (go_at_call 50; refine hsm1.mono ?_; clear hsm1; rintro e w2 ⟨rfl, k2⟩))
  go_ret
  exact ⟨rfl, (k0.trans k1).trans k2⟩
set_option maxHeartbeats 1000000 in
set_option maxRecDepth 100000 in
theorem placed_x (w : World) {gb : Nat} {g : Nat → Int} (hB : IB w gb 14 g) {a : Option Addr} {l : List Rw} {cap : Nat} (hl : RSL w a l) (r : Rw) (th : Nat) (hk : r.kind ≠ 0 ∧ r.kind ≠ 1 ∧ r.kind ≠ 2 ∧ r.kind ≠ 17) (hG : ∀ i, i < 14 → g i + 1 ≤ 9223372036854775807 ∧ -9223372036854775808 ≤ g i) (et : r.thread = (th : Int)) (ht : th < 6) (j : Nat) (hg : g th = (j : Int)) (hj : j < l.length) (hq : (l.getD j rw0).job + 1 ≤ 9223372036854775807 ∧ -9223372036854775808 ≤ (l.getD j rw0).job ∧ (l.getD j rw0).try_ + 1 ≤ 9223372036854775807 ∧ -9223372036854775808 ≤ (l.getD j rw0).try_) : Calls Try.prog 27 #[.pointer (some ⟨gb, 0, none⟩), .slice a l.length cap, .agg r.cells.toArray] w fun e w' => e = .returned (.bool (plQ g r (l.getD j rw0))) ∧ Keeps (fun _ => False) w w' := by
  obtain ⟨w0, e0, k0, hb, hz0⟩ := rw_box w r
  have hB0 := hB.keep (by decide) k0 (fun e => e)
  have hl0 := hl.keep k0
  obtain ⟨hcl, c0, c1, c2, c3, c4, c5, c6, c7, c8, c11, c13, c17, c21, c25⟩ := hb
  clear c0 c6 c7 c8 c13 c17 c21 c25 hB hl
  rw [et] at c1
  have i1 : (0 : Int) ≤ (th : Int) := by omega
  have i2 : (th : Int) < 6 := by omega
  have i3 : decide ((th : Int) < 0) = false := decide_eq_false (by omega)
  have i4 : decide ((6 : Int) ≤ (th : Int)) = false := decide_eq_false (by omega)
  have i5 : decide (6 ≤ th) = false := decide_eq_false (by omega)
  have d0 := hB0.c th (by omega)
  have d12 := hB0.c 12 (by decide)
  have d13 := hB0.c 13 (by decide)
  have hb12 := hG 12 (by decide)
  have hb13 := hG 13 (by decide)
  rw [hg] at d0
  have i6 : decide ((0 : Int) ≤ (j : Int)) = true := decide_eq_true (by omega)
  have i7 : (0 : Int) ≤ (j : Int) := by omega
  have i8 : (j : Int) < (l.length : Int) := by omega
  have hst := rstate_some w0 hB0 hl0 (cap := cap) th j ht hg hj
  have hsm := fun W (k : Keeps (fun _ => False) w0 W) => rsame_any W (hB0.keep (by decide) k (fun e => e)) (hl0.keep k) (cap := cap) r th j et ht hg hj
  obtain ⟨b, off, rfl, hc⟩ := hl0 j hj
  clear hl0 hg hG
  generalize hN : l.length = N at *
  generalize l.getD j rw0 = q at *
  obtain ⟨hq1, hq2, hq3, hq4⟩ := hq
  have hOC := all_oneCell_rw q
  unfold plQ
  rw [if_neg hk.2.1, if_neg hk.2.2.1, if_neg hk.2.2.2]
  have b0 : (r.kind == 0) = false := beq_eq_false_iff_ne.2 hk.1
  have b1 : (r.kind == 1) = false := beq_eq_false_iff_ne.2 hk.2.1
  have b2 : (r.kind == 2) = false := beq_eq_false_iff_ne.2 hk.2.2.1
  have b17 : (r.kind == 17) = false := beq_eq_false_iff_ne.2 hk.2.2.2
  clear hc hk et
  generalize hsq : stR q = sq at *
  generalize eq3 r.job r.try_ r.no q.job q.try_ q.no = q3 at *
  generalize hx0 : (sq == 1) = x0
  generalize r.kind = kd at *
  clear hsq
  go_enter Try.func27, Try.ntmps27
  refine wp_seq_k (fun KK hKK => ?_)
  have hKH : Hid _ := hKK
  clear hKK
  go_wp2_with fail
  refine hKH.out _ _ ?_
  clear hKH KK
  rw [← e0]
  clear e0
  cases x0
  · go_wp2_with (go_at_call 49; refine hst.mono ?_; clear hst; rintro e w1 ⟨rfl, k1⟩; replace c5 := k1.cell c5 (fun e => e))
    go_ret
    exact ⟨rfl, k0.trans k1⟩
  go_wp2_with (first | (go_at_call 49; refine hst.mono ?_; clear hst; rintro e w1 ⟨rfl, k1⟩; have hR1 := run_rw (hcl.keep (by show 0 < 26; decide) k1 (fun e => e)); have hsm1 := hsm w1 k1; replace c5 := k1.cell c5 (fun e => e)) | (refine wpList_load_runG (by rfl) 39 _ rfl ⟨w.heap.size, 0, none⟩ rfl _ hR1 ?_; clear hR1) | (go_at_call 50; refine hsm1.mono ?_; clear hsm1; rintro e w2 ⟨rfl, k2⟩))
  go_ret
  exact ⟨rfl, (k0.trans k1).trans k2⟩
set_option maxHeartbeats 1000000 in
set_option maxRecDepth 100000 in
theorem placed_2 (w : World) {gb : Nat} {g : Nat → Int} (hB : IB w gb 14 g) {a : Option Addr} {l : List Rw} {cap : Nat} (hl : RSL w a l) (r : Rw) (th : Nat) (hk : r.kind = 2) (hG : ∀ i, i < 14 → g i + 1 ≤ 9223372036854775807 ∧ -9223372036854775808 ≤ g i) (et : r.thread = (th : Int)) (ht : th < 6) (j : Nat) (hg : g th = (j : Int)) (hj : j < l.length) (hq : (l.getD j rw0).job + 1 ≤ 9223372036854775807 ∧ -9223372036854775808 ≤ (l.getD j rw0).job ∧ (l.getD j rw0).try_ + 1 ≤ 9223372036854775807 ∧ -9223372036854775808 ≤ (l.getD j rw0).try_) : Calls Try.prog 27 #[.pointer (some ⟨gb, 0, none⟩), .slice a l.length cap, .agg r.cells.toArray] w fun e w' => e = .returned (.bool (plQ g r (l.getD j rw0))) ∧ Keeps (fun _ => False) w w' := by
  obtain ⟨w0, e0, k0, hb, hz0⟩ := rw_box w r
  have hB0 := hB.keep (by decide) k0 (fun e => e)
  have hl0 := hl.keep k0
  obtain ⟨hcl, c0, c1, c2, c3, c4, c5, c6, c7, c8, c11, c13, c17, c21, c25⟩ := hb
  clear c0 c6 c7 c8 c13 c17 c21 c25 hB hl
  rw [et] at c1
  have i1 : (0 : Int) ≤ (th : Int) := by omega
  have i2 : (th : Int) < 6 := by omega
  have i3 : decide ((th : Int) < 0) = false := decide_eq_false (by omega)
  have i4 : decide ((6 : Int) ≤ (th : Int)) = false := decide_eq_false (by omega)
  have i5 : decide (6 ≤ th) = false := decide_eq_false (by omega)
  have d0 := hB0.c th (by omega)
  have d12 := hB0.c 12 (by decide)
  have d13 := hB0.c 13 (by decide)
  have hb12 := hG 12 (by decide)
  have hb13 := hG 13 (by decide)
  rw [hg] at d0
  have i6 : decide ((0 : Int) ≤ (j : Int)) = true := decide_eq_true (by omega)
  have i7 : (0 : Int) ≤ (j : Int) := by omega
  have i8 : (j : Int) < (l.length : Int) := by omega
  have hst := rstate_some w0 hB0 hl0 (cap := cap) th j ht hg hj
  have hsm := fun W (k : Keeps (fun _ => False) w0 W) => rsame_any W (hB0.keep (by decide) k (fun e => e)) (hl0.keep k) (cap := cap) r th j et ht hg hj
  obtain ⟨b, off, rfl, hc⟩ := hl0 j hj
  clear hl0 hg hG
  generalize hN : l.length = N at *
  generalize l.getD j rw0 = q at *
  obtain ⟨hq1, hq2, hq3, hq4⟩ := hq
  have hOC := all_oneCell_rw q
  unfold plQ
  rw [hk] at c5
  rw [if_neg (by omega), if_pos hk]
  clear hsm hk et
  generalize hsq : stR q = sq at *
  generalize hx0 : (sq == 2) = x0
  have hy0 : (sq != 2) = !x0 := by rw [← hx0]; rfl
  unfold eq3
  generalize hx1 : (r.job == q.job) = x1
  generalize hx2 : (r.try_ == q.try_ + 1) = x2
  generalize hx3 : (r.no == g 12 + 1) = x3
  clear hsq
  go_enter Try.func27, Try.ntmps27
  refine wp_seq_k (fun KK hKK => ?_)
  have hKH : Hid _ := hKK
  clear hKK
  go_wp2_with fail
  refine hKH.out _ _ ?_
  clear hKH KK
  rw [← e0]
  clear e0
  cases x0
  · go_wp2_with (go_at_call 49; refine hst.mono ?_; clear hst; rintro e w1 ⟨rfl, k1⟩; replace c5 := k1.cell c5 (fun e => e))
    go_ret
    exact ⟨rfl, k0.trans k1⟩
  go_wp2_with (go_at_call 49; refine hst.mono ?_; clear hst; rintro e w1 ⟨rfl, k1⟩; replace c1 := k1.cell c1 (fun e => e); replace c2 := k1.cell c2 (fun e => e); replace c3 := k1.cell c3 (fun e => e); replace c4 := k1.cell c4 (fun e => e); replace c11 := k1.cell c11 (fun e => e); replace d0 := k1.cell d0 (fun e => e); replace d12 := k1.cell d12 (fun e => e); replace d13 := k1.cell d13 (fun e => e); replace hc := fun j v e => k1.cell (hc j v e) (fun e => e); replace c5 := k1.cell c5 (fun e => e))
  refine wp_region_held_drew (S := fun w' => Keeps (fun _ => False) w1 w') (by kernel_rfl) (Keeps.refl _ w1).drew (fun hHeld => ?_)
  refine wpAnyH_take (i := 0) (v := ?_) rfl (by kernel_rfl) (by kernel_rfl) (by kernel_rfl) (fun _ _ _ h => h) (Or.inl ⟨by rfl, ?_⟩) (by assumption) ?_
  rotate_left
  · intro wx hSw; clear hSw; go_simp <;> with_reducible rfl
  (try simp only [List.getElem_toArray]); (try simp only [List.getElem_cons_succ]); (try simp only [List.getElem_cons_zero]); (try simp only [Act.put]); (try simp only [List.setIfInBounds_toArray]); (repeat first | simp only [List.set_cons_succ] | simp only [List.set_cons_zero])
  refine wpAnyH_take (i := 1) (v := ?_) rfl (by kernel_rfl) (by kernel_rfl) (by kernel_rfl) (fun _ _ _ h => h) (Or.inl ⟨by rfl, ?_⟩) (by assumption) ?_
  rotate_left
  · intro wx hSw; clear hSw; go_simp <;> with_reducible rfl
  (try simp only [List.getElem_toArray]); (try simp only [List.getElem_cons_succ]); (try simp only [List.getElem_cons_zero]); (try simp only [Act.put]); (try simp only [List.setIfInBounds_toArray]); (repeat first | simp only [List.set_cons_succ] | simp only [List.set_cons_zero])
  refine wpAnyH_take (i := 2) (v := ?_) rfl (by kernel_rfl) (by kernel_rfl) (by kernel_rfl) (fun _ _ _ h => h) (Or.inl ⟨by rfl, ?_⟩) (by assumption) ?_
  rotate_left
  · intro wx hSw; clear hSw; go_simp <;> with_reducible rfl
  (try simp only [List.getElem_toArray]); (try simp only [List.getElem_cons_succ]); (try simp only [List.getElem_cons_zero]); (try simp only [Act.put]); (try simp only [List.setIfInBounds_toArray]); (repeat first | simp only [List.set_cons_succ] | simp only [List.set_cons_zero])
  refine wpAnyH_take (i := 3) (v := ?_) rfl (by kernel_rfl) (by kernel_rfl) (by kernel_rfl) (fun _ _ _ h => h) (Or.inl ⟨by rfl, ?_⟩) (by assumption) ?_
  rotate_left
  · intro wx hSw; have p1 := hSw.cell c1 (fun e => e); clear hSw; go_simp <;> with_reducible rfl
  (try simp only [List.getElem_toArray]); (try simp only [List.getElem_cons_succ]); (try simp only [List.getElem_cons_zero]); (try simp only [Act.put]); (try simp only [List.setIfInBounds_toArray]); (repeat first | simp only [List.set_cons_succ] | simp only [List.set_cons_zero])
  refine wpAnyH_take (i := 4) (v := ?_) rfl (by kernel_rfl) (by kernel_rfl) (by kernel_rfl) (fun _ _ _ h => h) (Or.inl ⟨by rfl, ?_⟩) (by assumption) ?_
  rotate_left
  · intro wx hSw; clear hSw; go_simp <;> with_reducible rfl
  (try simp only [List.getElem_toArray]); (try simp only [List.getElem_cons_succ]); (try simp only [List.getElem_cons_zero]); (try simp only [Act.put]); (try simp only [List.setIfInBounds_toArray]); (repeat first | simp only [List.set_cons_succ] | simp only [List.set_cons_zero])
  refine wpAnyH_take (i := 5) (v := ?_) rfl (by kernel_rfl) (by kernel_rfl) (by kernel_rfl) (fun _ _ _ h => h) (Or.inl ⟨by rfl, ?_⟩) (by assumption) ?_
  rotate_left
  · intro wx hSw; clear hSw; go_simp <;> with_reducible rfl
  (try simp only [List.getElem_toArray]); (try simp only [List.getElem_cons_succ]); (try simp only [List.getElem_cons_zero]); (try simp only [Act.put]); (try simp only [List.setIfInBounds_toArray]); (repeat first | simp only [List.set_cons_succ] | simp only [List.set_cons_zero])
  refine wpAnyH_take (i := 6) (v := ?_) rfl (by kernel_rfl) (by kernel_rfl) (by kernel_rfl) (fun _ _ _ h => h) (Or.inl ⟨by rfl, ?_⟩) (by assumption) ?_
  rotate_left
  · intro wx hSw; clear hSw; go_simp <;> with_reducible rfl
  (try simp only [List.getElem_toArray]); (try simp only [List.getElem_cons_succ]); (try simp only [List.getElem_cons_zero]); (try simp only [Act.put]); (try simp only [List.setIfInBounds_toArray]); (repeat first | simp only [List.set_cons_succ] | simp only [List.set_cons_zero])
  refine wpAnyH_take (i := 7) (v := ?_) rfl (by kernel_rfl) (by kernel_rfl) (by kernel_rfl) (fun _ _ _ h => h) (Or.inl ⟨by rfl, ?_⟩) (by assumption) ?_
  rotate_left
  · intro wx hSw; have p0 := hSw.cell d0 (fun e => e); clear hSw; go_simp <;> with_reducible rfl
  (try simp only [List.getElem_toArray]); (try simp only [List.getElem_cons_succ]); (try simp only [List.getElem_cons_zero]); (try simp only [Act.put]); (try simp only [List.setIfInBounds_toArray]); (repeat first | simp only [List.set_cons_succ] | simp only [List.set_cons_zero])
  refine wpAnyH_take (i := 8) (v := ?_) rfl (by kernel_rfl) (by kernel_rfl) (by kernel_rfl) (fun _ _ _ h => h) (Or.inl ⟨by rfl, ?_⟩) (by assumption) ?_
  rotate_left
  · intro wx hSw; clear hSw; go_simp <;> with_reducible rfl
  (try simp only [List.getElem_toArray]); (try simp only [List.getElem_cons_succ]); (try simp only [List.getElem_cons_zero]); (try simp only [Act.put]); (try simp only [List.setIfInBounds_toArray]); (repeat first | simp only [List.set_cons_succ] | simp only [List.set_cons_zero])
  refine wpAnyH_take (i := 9) (v := (.agg q.cells.toArray)) rfl (by kernel_rfl) (by kernel_rfl) (by kernel_rfl) (fun _ _ _ h => h) (Or.inl ⟨by rfl, ?_⟩) (by assumption) ?_
  · intro wx hSw; exact takes_load 39 _ rfl ⟨b, off + j * 26, none⟩ rfl (run_rwAt (fun j v e => hSw.cell (hc j v e) (fun e => e)))
  (try simp only [List.getElem_toArray]); (try simp only [List.getElem_cons_succ]); (try simp only [List.getElem_cons_zero]); (try simp only [Act.put]); (try simp only [List.setIfInBounds_toArray]); (repeat first | simp only [List.set_cons_succ] | simp only [List.set_cons_zero])
  have m0 := (CL.made w1.drew rw0.cells 39)
  have s0 : w1.drew.heap.size = w1.heap.size := rfl
  rw [s0] at m0
  refine wpAnyH_one 10 (by kernel_rfl) rfl rfl ?_
  go_simp
  refine ⟨hHeld.alloc _, fun hS1 => ?_⟩
  (try simp only [List.getElem_toArray]); (try simp only [List.getElem_cons_succ]); (try simp only [List.getElem_cons_zero]); (try simp only [Act.put]); (try simp only [List.setIfInBounds_toArray]); (repeat first | simp only [List.set_cons_succ] | simp only [List.set_cons_zero])
  have q6 := store_rw m0 q
  refine wpAnyH_store 11 (by kernel_rfl) rfl rfl 39 _ _ rfl (w1.heap.size) 0 26 _ rfl rfl rfl (m0.there (by show 0 + 26 ≤ 26; decide)) iRw hOC (hS1.trans' q6.2 (fun _ _ e => e) (fun i hi e => by have e : i = w1.heap.size := e; omega)) (fun hS2 => ?_)
  (try simp only [List.getElem_toArray]); (try simp only [List.getElem_cons_succ]); (try simp only [List.getElem_cons_zero]); (try simp only [Act.put]); (try simp only [List.setIfInBounds_toArray]); (repeat first | simp only [List.set_cons_succ] | simp only [List.set_cons_zero])
  refine wpAnyH_done (by kernel_rfl) ?_ _
  generalize h9 : World.setCells _ _ _ _ = w9
  have hS3 : Keeps (fun _ => False) w1 w9 := by rw [← h9]; exact hS2
  have q9 : CL w9 w1.heap.size q.cells := by rw [← h9]; exact q6.1
  clear h9 hS1 hS2 hHeld m0 q6
  have K1 := (k0.trans k1).trans hS3
  replace c1 := hS3.cell c1 (fun e => e)
  replace c2 := hS3.cell c2 (fun e => e)
  replace c3 := hS3.cell c3 (fun e => e)
  replace c4 := hS3.cell c4 (fun e => e)
  replace c11 := hS3.cell c11 (fun e => e)
  replace d0 := hS3.cell d0 (fun e => e)
  replace d12 := hS3.cell d12 (fun e => e)
  replace d13 := hS3.cell d13 (fun e => e)
  have y2 := ks_cell (q9.c 2 _ rfl)
  have y3 := ks_cell (q9.c 3 _ rfl)
  have y4 := ks_cell (q9.c 4 _ rfl)
  go_wp2_with fail
  have hNE := ks_ne c1
  have pc1 := ks_cell c1
  have pc2 := ks_cell c2
  have pc3 := ks_cell c3
  have pc4 := ks_cell c4
  have pc11 := ks_cell c11
  have pd0 := ks_cell d0
  have pd12 := ks_cell d12
  have pd13 := ks_cell d13
  cases x1
  · refine wp_region_ks (by kernel_rfl) (by kernel_rfl) ?_
    (repeat (go_big_quiet_step (fail)))
    refine wpQuiet_nil ?_
    rintro _ ⟨u, rfl⟩
    have K2 := K1.trans u.property
    generalize u.val = w3 at *
    go_wp2
    go_ret
    exact ⟨rfl, K2⟩
  cases x2
  · refine wp_region_ks (by kernel_rfl) (by kernel_rfl) ?_
    (repeat (go_big_quiet_step (fail)))
    refine wpQuiet_nil ?_
    rintro _ ⟨u, rfl⟩
    have K2 := K1.trans u.property
    generalize u.val = w3 at *
    go_wp2
    go_ret
    exact ⟨rfl, K2⟩
  refine wp_region_ks (by kernel_rfl) (by kernel_rfl) ?_
  (repeat (go_big_quiet_step (fail)))
  refine wpQuiet_nil ?_
  rintro _ ⟨u, rfl⟩
  have K2 := K1.trans u.property
  generalize u.val = w3 at *
  go_wp2
  go_ret
  exact ⟨rfl, K2⟩
end Go.Proofs.Ytlaacojicoeneaa
