import Derived.Test.YtmnmphkkcabkiaaG06
namespace Go.Proofs.Ytmnmphkkcabkiaa
open Go.RowKit
set_option maxHeartbeats 1000000 in
set_option maxRecDepth 100000 in
theorem placed_1 (w : World) {gb : Nat} {g : Nat → Int} (hB : IB w gb 14 g) {a : Option Addr} {l : List Rw} {cap : Nat} (hl : RSL w a l) (r : Rw) (th : Nat) (hk : r.kind = 1) (hG : ∀ i, i < 14 → g i + 1 ≤ 9223372036854775807 ∧ -9223372036854775808 ≤ g i) (et : r.thread = (th : Int)) (ht : th < 6) (j : Nat) (hg : g th = (j : Int)) (hj : j < l.length) (hq : (l.getD j rw0).job + 1 ≤ 9223372036854775807 ∧ -9223372036854775808 ≤ (l.getD j rw0).job ∧ (l.getD j rw0).try_ + 1 ≤ 9223372036854775807 ∧ -9223372036854775808 ≤ (l.getD j rw0).try_) : Calls Try.prog 47 #[.pointer (some ⟨gb, 0, none⟩), .slice a l.length cap, .agg r.cells.toArray] w fun e w' => e = .returned (.bool (plQ g r (l.getD j rw0))) ∧ Keeps (fun _ => False) w w' := by
  obtain ⟨w0, e0, k0, hb, hz0⟩ := rw_box w r
  have hB0 := hB.keep (by decide) k0 (fun e => e)
  have hl0 := hl.keep k0
  obtain ⟨hcl, c0, c1, c2, c3, c4, c5, c6, c7, c8, c11, c13, c17, c21, c25⟩ := hb
  clear c0 c6 c7 c8 c13 c17 c21 c25 hB hl
  rw [et] at c1
  have i1 : (0 : Int) ≤ (th : Int) := by omega
  have i2 : (th : Int) < 6 := by omega
  have i3 : decide ((th : Int) < 0) = false := decide_eq_false (by omega)
  have i4 : decide ((6 : Int) ≤ (th : Int)) = false := decide_eq_false (by omega)
  have i5 : decide (6 ≤ th) = false := decide_eq_false (by omega)
  have d0 := hB0.c th (by omega)
  have d12 := hB0.c 12 (by decide)
  have d13 := hB0.c 13 (by decide)
  have hb12 := hG 12 (by decide)
  have hb13 := hG 13 (by decide)
  rw [hg] at d0
  have i6 : decide ((0 : Int) ≤ (j : Int)) = true := decide_eq_true (by omega)
  have i7 : (0 : Int) ≤ (j : Int) := by omega
  have i8 : (j : Int) < (l.length : Int) := by omega
  have hst := rstate_some w0 hB0 hl0 (cap := cap) th j ht hg hj
  have hsm := fun W (k : Keeps (fun _ => False) w0 W) => rsame_any W (hB0.keep (by decide) k (fun e => e)) (hl0.keep k) (cap := cap) r th j et ht hg hj
  obtain ⟨b, off, rfl, hc⟩ := hl0 j hj
  clear hl0 hg hG
  generalize hN : l.length = N at *
  generalize l.getD j rw0 = q at *
  obtain ⟨hq1, hq2, hq3, hq4⟩ := hq
  have hOC := all_oneCell_rw q
  unfold plQ
  rw [hk] at c5
  rw [if_pos hk]
  have e2 := hc 2 _ rfl
  clear hc hsm hcl hk et
  generalize hsq : stR q = sq at *
  generalize q.job = qj at *
  generalize hx0 : (sq == 0) = x0
  generalize hx1 : (r.job == qj + 1) = x1
  generalize hx2 : (r.try_ == 1) = x2
  generalize hx3 : (r.no == g 12 + 1) = x3
  generalize hx4 : (r.seen == g 13) = x4
  clear hsq
  go_enter Try.func47, Try.ntmps47
  refine wp_seq_k (fun KK hKK => ?_)
  have hKH : Hid _ := hKK
  clear hKK
  go_wp2_with fail
  refine hKH.out _ _ ?_
  clear hKH KK
  rw [← e0]
  clear e0
  go_wp2_with (go_at_call 60; refine hst.mono ?_; clear hst; rintro e w1 ⟨rfl, k1⟩; replace c1 := k1.cell c1 (fun e => e); replace c2 := k1.cell c2 (fun e => e); replace c3 := k1.cell c3 (fun e => e); replace c4 := k1.cell c4 (fun e => e); replace c11 := k1.cell c11 (fun e => e); replace d0 := k1.cell d0 (fun e => e); replace d12 := k1.cell d12 (fun e => e); replace d13 := k1.cell d13 (fun e => e); replace e2 := k1.cell e2 (fun e => e); replace c5 := k1.cell c5 (fun e => e))
  have hNE := ks_ne c1
  have pc1 := ks_cell c1
  have pc2 := ks_cell c2
  have pc3 := ks_cell c3
  have pc4 := ks_cell c4
  have pc11 := ks_cell c11
  have pd0 := ks_cell d0
  have pd12 := ks_cell d12
  have pd13 := ks_cell d13
  have pe2 := ks_cell e2
  refine wp_region_ks (by kernel_rfl) (by kernel_rfl) ?_
  (repeat (go_big_quiet_step (fail)))
  refine wpQuiet_nil ?_
  rintro _ ⟨u, rfl⟩
  clear pc1 pc2 pc3 pc4 pc11 pd0 pd12 pd13 pe2
  replace c1 := u.property.cell c1 (fun e => e)
  replace c2 := u.property.cell c2 (fun e => e)
  replace c3 := u.property.cell c3 (fun e => e)
  replace c4 := u.property.cell c4 (fun e => e)
  replace c11 := u.property.cell c11 (fun e => e)
  replace d0 := u.property.cell d0 (fun e => e)
  replace d12 := u.property.cell d12 (fun e => e)
  replace d13 := u.property.cell d13 (fun e => e)
  replace e2 := u.property.cell e2 (fun e => e)
  have K1 := (k0.trans k1).trans u.property
  generalize u.val = w2 at *
  clear hNE
  go_wp2_with fail
  have hNE := ks_ne c1
  have pc1 := ks_cell c1
  have pc2 := ks_cell c2
  have pc3 := ks_cell c3
  have pc4 := ks_cell c4
  have pc11 := ks_cell c11
  have pd0 := ks_cell d0
  have pd12 := ks_cell d12
  have pd13 := ks_cell d13
  have pe2 := ks_cell e2
  refine wp_region_ks (by kernel_rfl) (by kernel_rfl) ?_
  (repeat (go_big_quiet_step (fail)))
  refine wpQuiet_nil ?_
  rintro _ ⟨u, rfl⟩
  clear pc1 pc2 pc3 pc4 pc11 pd0 pd12 pd13 pe2
  replace c1 := u.property.cell c1 (fun e => e)
  replace c2 := u.property.cell c2 (fun e => e)
  replace c3 := u.property.cell c3 (fun e => e)
  replace c4 := u.property.cell c4 (fun e => e)
  replace c11 := u.property.cell c11 (fun e => e)
  replace d0 := u.property.cell d0 (fun e => e)
  replace d12 := u.property.cell d12 (fun e => e)
  replace d13 := u.property.cell d13 (fun e => e)
  replace e2 := u.property.cell e2 (fun e => e)
  replace K1 := K1.trans u.property
  generalize u.val = w4 at *
  clear hNE
  go_wp2_with fail
  have hNE := ks_ne c1
  have pc1 := ks_cell c1
  have pc2 := ks_cell c2
  have pc3 := ks_cell c3
  have pc4 := ks_cell c4
  have pc11 := ks_cell c11
  have pd0 := ks_cell d0
  have pd12 := ks_cell d12
  have pd13 := ks_cell d13
  have pe2 := ks_cell e2
  cases x0
  · refine wp_region_ks (by kernel_rfl) (by kernel_rfl) ?_
    (repeat (go_big_quiet_step (fail)))
    refine wpQuiet_nil ?_
    rintro _ ⟨u, rfl⟩
    have K2 := K1.trans u.property
    generalize u.val = w3 at *
    go_wp2
    go_ret
    exact ⟨rfl, K2⟩
  cases x1
  · refine wp_region_ks (by kernel_rfl) (by kernel_rfl) ?_
    (repeat (go_big_quiet_step (fail)))
    refine wpQuiet_nil ?_
    rintro _ ⟨u, rfl⟩
    have K2 := K1.trans u.property
    generalize u.val = w3 at *
    go_wp2
    go_ret
    exact ⟨rfl, K2⟩
  cases x2
  · refine wp_region_ks (by kernel_rfl) (by kernel_rfl) ?_
    (repeat (go_big_quiet_step (fail)))
    refine wpQuiet_nil ?_
    rintro _ ⟨u, rfl⟩
    have K2 := K1.trans u.property
    generalize u.val = w3 at *
    go_wp2
    go_ret
    exact ⟨rfl, K2⟩
  cases x3
  · refine wp_region_ks (by kernel_rfl) (by kernel_rfl) ?_
    (repeat (go_big_quiet_step (fail)))
    refine wpQuiet_nil ?_
    rintro _ ⟨u, rfl⟩
    have K2 := K1.trans u.property
    generalize u.val = w3 at *
    go_wp2
    go_ret
    exact ⟨rfl, K2⟩
  refine wp_region_ks (by kernel_rfl) (by kernel_rfl) ?_
  (repeat (go_big_quiet_step (fail)))
  refine wpQuiet_nil ?_
  rintro _ ⟨u, rfl⟩
  have K2 := K1.trans u.property
  generalize u.val = w3 at *
  go_wp2
  go_ret
  exact ⟨rfl, K2⟩
set_option maxHeartbeats 1000000 in
set_option maxRecDepth 100000 in
theorem placed_17 (w : World) {gb : Nat} {g : Nat → Int} (hB : IB w gb 14 g) {a : Option Addr} {l : List Rw} {cap : Nat} (hl : RSL w a l) (r : Rw) (th : Nat) (hk : r.kind = 17) (hG : ∀ i, i < 14 → g i + 1 ≤ 9223372036854775807 ∧ -9223372036854775808 ≤ g i) (et : r.thread = (th : Int)) (ht : th < 6) (j : Nat) (hg : g th = (j : Int)) (hj : j < l.length) (hq : (l.getD j rw0).job + 1 ≤ 9223372036854775807 ∧ -9223372036854775808 ≤ (l.getD j rw0).job ∧ (l.getD j rw0).try_ + 1 ≤ 9223372036854775807 ∧ -9223372036854775808 ≤ (l.getD j rw0).try_) : Calls Try.prog 47 #[.pointer (some ⟨gb, 0, none⟩), .slice a l.length cap, .agg r.cells.toArray] w fun e w' => e = .returned (.bool (plQ g r (l.getD j rw0))) ∧ Keeps (fun _ => False) w w' := by
  obtain ⟨w0, e0, k0, hb, hz0⟩ := rw_box w r
  have hB0 := hB.keep (by decide) k0 (fun e => e)
  have hl0 := hl.keep k0
  obtain ⟨hcl, c0, c1, c2, c3, c4, c5, c6, c7, c8, c11, c13, c17, c21, c25⟩ := hb
  clear c0 c6 c7 c8 c13 c17 c21 c25 hB hl
  rw [et] at c1
  have i1 : (0 : Int) ≤ (th : Int) := by omega
  have i2 : (th : Int) < 6 := by omega
  have i3 : decide ((th : Int) < 0) = false := decide_eq_false (by omega)
  have i4 : decide ((6 : Int) ≤ (th : Int)) = false := decide_eq_false (by omega)
  have i5 : decide (6 ≤ th) = false := decide_eq_false (by omega)
  have d0 := hB0.c th (by omega)
  have d12 := hB0.c 12 (by decide)
  have d13 := hB0.c 13 (by decide)
  have hb12 := hG 12 (by decide)
  have hb13 := hG 13 (by decide)
  rw [hg] at d0
  have i6 : decide ((0 : Int) ≤ (j : Int)) = true := decide_eq_true (by omega)
  have i7 : (0 : Int) ≤ (j : Int) := by omega
  have i8 : (j : Int) < (l.length : Int) := by omega
  have hst := rstate_some w0 hB0 hl0 (cap := cap) th j ht hg hj
  have hsm := fun W (k : Keeps (fun _ => False) w0 W) => rsame_any W (hB0.keep (by decide) k (fun e => e)) (hl0.keep k) (cap := cap) r th j et ht hg hj
  obtain ⟨b, off, rfl, hc⟩ := hl0 j hj
  clear hl0 hg hG
  generalize hN : l.length = N at *
  generalize l.getD j rw0 = q at *
  obtain ⟨hq1, hq2, hq3, hq4⟩ := hq
  have hOC := all_oneCell_rw q
  unfold plQ
  rw [hk] at c5
  rw [if_neg (by omega), if_neg (by omega), if_pos hk]
  clear hc hk et
  generalize hsq : stR q = sq at *
  generalize eq3 r.job r.try_ r.no q.job q.try_ q.no = q3 at *
  generalize hx0 : (sq == 3) = x0
  clear hsq
  go_enter Try.func47, Try.ntmps47
  refine wp_seq_k (fun KK hKK => ?_)
  have hKH : Hid _ := hKK
  clear hKK
  go_wp2_with fail
  refine hKH.out _ _ ?_
  clear hKH KK
  rw [← e0]
  clear e0
  cases x0
  · go_wp2_with (go_at_call 60; refine hst.mono ?_; clear hst; rintro e w1 ⟨rfl, k1⟩; replace c5 := k1.cell c5 (fun e => e))
    go_ret
    exact ⟨rfl, k0.trans k1⟩
  go_wp2_with (first | (go_at_call 60; refine hst.mono ?_; clear hst; rintro e w1 ⟨rfl, k1⟩; have hR1 := run_rw (hcl.keep (by show 0 < 26; decide) k1 (fun e => e)); have hsm1 := hsm w1 k1; replace c5 := k1.cell c5 (fun e => e)) | (refine wpList_load_runG (by rfl) 50 _ rfl ⟨w.heap.size, 0, none⟩ rfl _ hR1 ?_; clear hR1) | (go_at_call 61; refine hsm1.mono ?_; clear hsm1; rintro e w2 ⟨rfl, k2⟩))
  go_ret
  exact ⟨rfl, (k0.trans k1).trans k2⟩
set_option maxHeartbeats 1000000 in
set_option maxRecDepth 100000 in
theorem placed_x (w : World) {gb : Nat} {g : Nat → Int} (hB : IB w gb 14 g) {a : Option Addr} {l : List Rw} {cap : Nat} (hl : RSL w a l) (r : Rw) (th : Nat) (hk : r.kind ≠ 0 ∧ r.kind ≠ 1 ∧ r.kind ≠ 2 ∧ r.kind ≠ 17) (hG : ∀ i, i < 14 → g i + 1 ≤ 9223372036854775807 ∧ -9223372036854775808 ≤ g i) (et : r.thread = (th : Int)) (ht : th < 6) (j : Nat) (hg : g th = (j : Int)) (hj : j < l.length) (hq : (l.getD j rw0).job + 1 ≤ 9223372036854775807 ∧ -9223372036854775808 ≤ (l.getD j rw0).job ∧ (l.getD j rw0).try_ + 1 ≤ 9223372036854775807 ∧ -9223372036854775808 ≤ (l.getD j rw0).try_) : Calls Try.prog 47 #[.pointer (some ⟨gb, 0, none⟩), .slice a l.length cap, .agg r.cells.toArray] w fun e w' => e = .returned (.bool (plQ g r (l.getD j rw0))) ∧ Keeps (fun _ => False) w w' := by
  obtain ⟨w0, e0, k0, hb, hz0⟩ := rw_box w r
  have hB0 := hB.keep (by decide) k0 (fun e => e)
  have hl0 := hl.keep k0
  obtain ⟨hcl, c0, c1, c2, c3, c4, c5, c6, c7, c8, c11, c13, c17, c21, c25⟩ := hb
  clear c0 c6 c7 c8 c13 c17 c21 c25 hB hl
  rw [et] at c1
  have i1 : (0 : Int) ≤ (th : Int) := by omega
  have i2 : (th : Int) < 6 := by omega
  have i3 : decide ((th : Int) < 0) = false := decide_eq_false (by omega)
  have i4 : decide ((6 : Int) ≤ (th : Int)) = false := decide_eq_false (by omega)
  have i5 : decide (6 ≤ th) = false := decide_eq_false (by omega)
  have d0 := hB0.c th (by omega)
  have d12 := hB0.c 12 (by decide)
  have d13 := hB0.c 13 (by decide)
  have hb12 := hG 12 (by decide)
  have hb13 := hG 13 (by decide)
  rw [hg] at d0
  have i6 : decide ((0 : Int) ≤ (j : Int)) = true := decide_eq_true (by omega)
  have i7 : (0 : Int) ≤ (j : Int) := by omega
  have i8 : (j : Int) < (l.length : Int) := by omega
  have hst := rstate_some w0 hB0 hl0 (cap := cap) th j ht hg hj
  have hsm := fun W (k : Keeps (fun _ => False) w0 W) => rsame_any W (hB0.keep (by decide) k (fun e => e)) (hl0.keep k) (cap := cap) r th j et ht hg hj
  obtain ⟨b, off, rfl, hc⟩ := hl0 j hj
  clear hl0 hg hG
  generalize hN : l.length = N at *
  generalize l.getD j rw0 = q at *
  obtain ⟨hq1, hq2, hq3, hq4⟩ := hq
  have hOC := all_oneCell_rw q
  unfold plQ
  rw [if_neg hk.2.1, if_neg hk.2.2.1, if_neg hk.2.2.2]
  have b0 : (r.kind == 0) = false := beq_eq_false_iff_ne.2 hk.1
  have b1 : (r.kind == 1) = false := beq_eq_false_iff_ne.2 hk.2.1
  have b2 : (r.kind == 2) = false := beq_eq_false_iff_ne.2 hk.2.2.1
  have b17 : (r.kind == 17) = false := beq_eq_false_iff_ne.2 hk.2.2.2
  clear hc hk et
  generalize hsq : stR q = sq at *
  generalize eq3 r.job r.try_ r.no q.job q.try_ q.no = q3 at *
  generalize hx0 : (sq == 1) = x0
  generalize r.kind = kd at *
  clear hsq
  go_enter Try.func47, Try.ntmps47
  refine wp_seq_k (fun KK hKK => ?_)
  have hKH : Hid _ := hKK
  clear hKK
  go_wp2_with fail
  refine hKH.out _ _ ?_
  clear hKH KK
  rw [← e0]
  clear e0
  cases x0
  · go_wp2_with (go_at_call 60; refine hst.mono ?_; clear hst; rintro e w1 ⟨rfl, k1⟩; replace c5 := k1.cell c5 (fun e => e))
    go_ret
    exact ⟨rfl, k0.trans k1⟩
  go_wp2_with (first | (go_at_call 60; refine hst.mono ?_; clear hst; rintro e w1 ⟨rfl, k1⟩; have hR1 := run_rw (hcl.keep (by show 0 < 26; decide) k1 (fun e => e)); have hsm1 := hsm w1 k1; replace c5 := k1.cell c5 (fun e => e)) | (refine wpList_load_runG (by rfl) 50 _ rfl ⟨w.heap.size, 0, none⟩ rfl _ hR1 ?_; clear hR1) | (go_at_call 61; refine hsm1.mono ?_; clear hsm1; rintro e w2 ⟨rfl, k2⟩))
  go_ret
  exact ⟨rfl, (k0.trans k1).trans k2⟩
set_option maxHeartbeats 1000000 in
set_option maxRecDepth 100000 in
theorem placed_2 (w : World) {gb : Nat} {g : Nat → Int} (hB : IB w gb 14 g) {a : Option Addr} {l : List Rw} {cap : Nat} (hl : RSL w a l) (r : Rw) (th : Nat) (hk : r.kind = 2) (hG : ∀ i, i < 14 → g i + 1 ≤ 9223372036854775807 ∧ -9223372036854775808 ≤ g i) (et : r.thread = (th : Int)) (ht : th < 6) (j : Nat) (hg : g th = (j : Int)) (hj : j < l.length) (hq : (l.getD j rw0).job + 1 ≤ 9223372036854775807 ∧ -9223372036854775808 ≤ (l.getD j rw0).job ∧ (l.getD j rw0).try_ + 1 ≤ 9223372036854775807 ∧ -9223372036854775808 ≤ (l.getD j rw0).try_) : Calls Try.prog 47 #[.pointer (some ⟨gb, 0, none⟩), .slice a l.length cap, .agg r.cells.toArray] w fun e w' => e = .returned (.bool (plQ g r (l.getD j rw0))) ∧ Keeps (fun _ => False) w w' := by
  obtain ⟨w0, e0, k0, hb, hz0⟩ := rw_box w r
  have hB0 := hB.keep (by decide) k0 (fun e => e)
  have hl0 := hl.keep k0
  obtain ⟨hcl, c0, c1, c2, c3, c4, c5, c6, c7, c8, c11, c13, c17, c21, c25⟩ := hb
  clear c0 c6 c7 c8 c13 c17 c21 c25 hB hl
  rw [et] at c1
  have i1 : (0 : Int) ≤ (th : Int) := by omega
  have i2 : (th : Int) < 6 := by omega
  have i3 : decide ((th : Int) < 0) = false := decide_eq_false (by omega)
  have i4 : decide ((6 : Int) ≤ (th : Int)) = false := decide_eq_false (by omega)
  have i5 : decide (6 ≤ th) = false := decide_eq_false (by omega)
  have d0 := hB0.c th (by omega)
  have d12 := hB0.c 12 (by decide)
  have d13 := hB0.c 13 (by decide)
  have hb12 := hG 12 (by decide)
  have hb13 := hG 13 (by decide)
  rw [hg] at d0
  have i6 : decide ((0 : Int) ≤ (j : Int)) = true := decide_eq_true (by omega)
  have i7 : (0 : Int) ≤ (j : Int) := by omega
  have i8 : (j : Int) < (l.length : Int) := by omega
  have hst := rstate_some w0 hB0 hl0 (cap := cap) th j ht hg hj
  have hsm := fun W (k : Keeps (fun _ => False) w0 W) => rsame_any W (hB0.keep (by decide) k (fun e => e)) (hl0.keep k) (cap := cap) r th j et ht hg hj
  obtain ⟨b, off, rfl, hc⟩ := hl0 j hj
  clear hl0 hg hG
  generalize hN : l.length = N at *
  generalize l.getD j rw0 = q at *
  obtain ⟨hq1, hq2, hq3, hq4⟩ := hq
  have hOC := all_oneCell_rw q
  unfold plQ
  rw [hk] at c5
  rw [if_neg (by omega), if_pos hk]
  clear hsm hk et
  generalize hsq : stR q = sq at *
  generalize hx0 : (sq == 2) = x0
  have hy0 : (sq != 2) = !x0 := by rw [← hx0]; rfl
  unfold eq3
  generalize hx1 : (r.job == q.job) = x1
  generalize hx2 : (r.try_ == q.try_ + 1) = x2
  generalize hx3 : (r.no == g 12 + 1) = x3
  clear hsq
  go_enter Try.func47, Try.ntmps47
  refine wp_seq_k (fun KK hKK => ?_)
  have hKH : Hid _ := hKK
  clear hKK
  go_wp2_with fail
  refine hKH.out _ _ ?_
  clear hKH KK
  rw [← e0]
  clear e0
  cases x0
  · go_wp2_with (go_at_call 60; refine hst.mono ?_; clear hst; rintro e w1 ⟨rfl, k1⟩; replace c5 := k1.cell c5 (fun e => e))
    go_ret
    exact ⟨rfl, k0.trans k1⟩
  go_wp2_with (go_at_call 60; refine hst.mono ?_; clear hst; rintro e w1 ⟨rfl, k1⟩; replace c1 := k1.cell c1 (fun e => e); replace c2 := k1.cell c2 (fun e => e); replace c3 := k1.cell c3 (fun e => e); replace c4 := k1.cell c4 (fun e => e); replace c11 := k1.cell c11 (fun e => e); replace d0 := k1.cell d0 (fun e => e); replace d12 := k1.cell d12 (fun e => e); replace d13 := k1.cell d13 (fun e => e); replace hc := fun j v e => k1.cell (hc j v e) (fun e => e); replace c5 := k1.cell c5 (fun e => e))
  refine wp_region_held_drew (S := fun w' => Keeps (fun _ => False) w1 w') (by kernel_rfl) (Keeps.refl _ w1).drew (fun hHeld => ?_)
  refine wpAnyH_take (i := 0) (v := ?_) rfl (by kernel_rfl) (by kernel_rfl) (by kernel_rfl) (fun _ _ _ h => h) (Or.inl ⟨by rfl, ?_⟩) (by assumption) ?_
  rotate_left
  · intro wx hSw; clear hSw; go_simp <;> with_reducible rfl
  (try simp only [List.getElem_toArray]); (try simp only [List.getElem_cons_succ]); (try simp only [List.getElem_cons_zero]); (try simp only [Act.put]); (try simp only [List.setIfInBounds_toArray]); (repeat first | simp only [List.set_cons_succ] | simp only [List.set_cons_zero])
  refine wpAnyH_take (i := 1) (v := ?_) rfl (by kernel_rfl) (by kernel_rfl) (by kernel_rfl) (fun _ _ _ h => h) (Or.inl ⟨by rfl, ?_⟩) (by assumption) ?_
  rotate_left
  · intro wx hSw; clear hSw; go_simp <;> with_reducible rfl
  (try simp only [List.getElem_toArray]); (try simp only [List.getElem_cons_succ]); (try simp only [List.getElem_cons_zero]); (try simp only [Act.put]); (try simp only [List.setIfInBounds_toArray]); (repeat first | simp only [List.set_cons_succ] | simp only [List.set_cons_zero])
  refine wpAnyH_take (i := 2) (v := ?_) rfl (by kernel_rfl) (by kernel_rfl) (by kernel_rfl) (fun _ _ _ h => h) (Or.inl ⟨by rfl, ?_⟩) (by assumption) ?_
  rotate_left
  · intro wx hSw; clear hSw; go_simp <;> with_reducible rfl
  (try simp only [List.getElem_toArray]); (try simp only [List.getElem_cons_succ]); (try simp only [List.getElem_cons_zero]); (try simp only [Act.put]); (try simp only [List.setIfInBounds_toArray]); (repeat first | simp only [List.set_cons_succ] | simp only [List.set_cons_zero])
  refine wpAnyH_take (i := 3) (v := ?_) rfl (by kernel_rfl) (by kernel_rfl) (by kernel_rfl) (fun _ _ _ h => h) (Or.inl ⟨by rfl, ?_⟩) (by assumption) ?_
  rotate_left
  · intro wx hSw; have p1 := hSw.cell c1 (fun e => e); clear hSw; go_simp <;> with_reducible rfl
  (try simp only [List.getElem_toArray]); (try simp only [List.getElem_cons_succ]); (try simp only [List.getElem_cons_zero]); (try simp only [Act.put]); (try simp only [List.setIfInBounds_toArray]); (repeat first | simp only [List.set_cons_succ] | simp only [List.set_cons_zero])
  refine wpAnyH_take (i := 4) (v := ?_) rfl (by kernel_rfl) (by kernel_rfl) (by kernel_rfl) (fun _ _ _ h => h) (Or.inl ⟨by rfl, ?_⟩) (by assumption) ?_
  rotate_left
  · intro wx hSw; clear hSw; go_simp <;> with_reducible rfl
  (try simp only [List.getElem_toArray]); (try simp only [List.getElem_cons_succ]); (try simp only [List.getElem_cons_zero]); (try simp only [Act.put]); (try simp only [List.setIfInBounds_toArray]); (repeat first | simp only [List.set_cons_succ] | simp only [List.set_cons_zero])
  refine wpAnyH_take (i := 5) (v := ?_) rfl (by kernel_rfl) (by kernel_rfl) (by kernel_rfl) (fun _ _ _ h => h) (Or.inl ⟨by rfl, ?_⟩) (by assumption) ?_
  rotate_left
  · intro wx hSw; clear hSw; go_simp <;> with_reducible rfl
  (try simp only [List.getElem_toArray]); (try simp only [List.getElem_cons_succ]); (try simp only [List.getElem_cons_zero]); (try simp only [Act.put]); (try simp only [List.setIfInBounds_toArray]); (repeat first | simp only [List.set_cons_succ] | simp only [List.set_cons_zero])
  refine wpAnyH_take (i := 6) (v := ?_) rfl (by kernel_rfl) (by kernel_rfl) (by kernel_rfl) (fun _ _ _ h => h) (Or.inl ⟨by rfl, ?_⟩) (by assumption) ?_
  rotate_left
  · intro wx hSw; clear hSw; go_simp <;> with_reducible rfl
  (try simp only [List.getElem_toArray]); (try simp only [List.getElem_cons_succ]); (try simp only [List.getElem_cons_zero]); (try simp only [Act.put]); (try simp only [List.setIfInBounds_toArray]); (repeat first | simp only [List.set_cons_succ] | simp only [List.set_cons_zero])
  refine wpAnyH_take (i := 7) (v := ?_) rfl (by kernel_rfl) (by kernel_rfl) (by kernel_rfl) (fun _ _ _ h => h) (Or.inl ⟨by rfl, ?_⟩) (by assumption) ?_
  rotate_left
  · intro wx hSw; have p0 := hSw.cell d0 (fun e => e); clear hSw; go_simp <;> with_reducible rfl
  (try simp only [List.getElem_toArray]); (try simp only [List.getElem_cons_succ]); (try simp only [List.getElem_cons_zero]); (try simp only [Act.put]); (try simp only [List.setIfInBounds_toArray]); (repeat first | simp only [List.set_cons_succ] | simp only [List.set_cons_zero])
  refine wpAnyH_take (i := 8) (v := ?_) rfl (by kernel_rfl) (by kernel_rfl) (by kernel_rfl) (fun _ _ _ h => h) (Or.inl ⟨by rfl, ?_⟩) (by assumption) ?_
  rotate_left
  · intro wx hSw; clear hSw; go_simp <;> with_reducible rfl
  (try simp only [List.getElem_toArray]); (try simp only [List.getElem_cons_succ]); (try simp only [List.getElem_cons_zero]); (try simp only [Act.put]); (try simp only [List.setIfInBounds_toArray]); (repeat first | simp only [List.set_cons_succ] | simp only [List.set_cons_zero])
  refine wpAnyH_take (i := 9) (v := (.agg q.cells.toArray)) rfl (by kernel_rfl) (by kernel_rfl) (by kernel_rfl) (fun _ _ _ h => h) (Or.inl ⟨by rfl, ?_⟩) (by assumption) ?_
  · intro wx hSw; exact takes_load 50 _ rfl ⟨b, off + j * 26, none⟩ rfl (run_rwAt (fun j v e => hSw.cell (hc j v e) (fun e => e)))
  (try simp only [List.getElem_toArray]); (try simp only [List.getElem_cons_succ]); (try simp only [List.getElem_cons_zero]); (try simp only [Act.put]); (try simp only [List.setIfInBounds_toArray]); (repeat first | simp only [List.set_cons_succ] | simp only [List.set_cons_zero])
  have m0 := (CL.made w1.drew rw0.cells 50)
  have s0 : w1.drew.heap.size = w1.heap.size := rfl
  rw [s0] at m0
  refine wpAnyH_one 10 (by kernel_rfl) rfl rfl ?_
  go_simp
  refine ⟨hHeld.alloc _, fun hS1 => ?_⟩
  (try simp only [List.getElem_toArray]); (try simp only [List.getElem_cons_succ]); (try simp only [List.getElem_cons_zero]); (try simp only [Act.put]); (try simp only [List.setIfInBounds_toArray]); (repeat first | simp only [List.set_cons_succ] | simp only [List.set_cons_zero])
  have q6 := store_rw m0 q
  refine wpAnyH_store 11 (by kernel_rfl) rfl rfl 50 _ _ rfl (w1.heap.size) 0 26 _ rfl rfl rfl (m0.there (by show 0 + 26 ≤ 26; decide)) iRw hOC (hS1.trans' q6.2 (fun _ _ e => e) (fun i hi e => by have e : i = w1.heap.size := e; omega)) (fun hS2 => ?_)
  (try simp only [List.getElem_toArray]); (try simp only [List.getElem_cons_succ]); (try simp only [List.getElem_cons_zero]); (try simp only [Act.put]); (try simp only [List.setIfInBounds_toArray]); (repeat first | simp only [List.set_cons_succ] | simp only [List.set_cons_zero])
  refine wpAnyH_done (by kernel_rfl) ?_ _
  generalize h9 : World.setCells _ _ _ _ = w9
  have hS3 : Keeps (fun _ => False) w1 w9 := by rw [← h9]; exact hS2
  have q9 : CL w9 w1.heap.size q.cells := by rw [← h9]; exact q6.1
  clear h9 hS1 hS2 hHeld m0 q6
  have K1 := (k0.trans k1).trans hS3
  replace c1 := hS3.cell c1 (fun e => e)
  replace c2 := hS3.cell c2 (fun e => e)
  replace c3 := hS3.cell c3 (fun e => e)
  replace c4 := hS3.cell c4 (fun e => e)
  replace c11 := hS3.cell c11 (fun e => e)
  replace d0 := hS3.cell d0 (fun e => e)
  replace d12 := hS3.cell d12 (fun e => e)
  replace d13 := hS3.cell d13 (fun e => e)
  have y2 := ks_cell (q9.c 2 _ rfl)
  have y3 := ks_cell (q9.c 3 _ rfl)
  have y4 := ks_cell (q9.c 4 _ rfl)
  go_wp2_with fail
  have hNE := ks_ne c1
  have pc1 := ks_cell c1
  have pc2 := ks_cell c2
  have pc3 := ks_cell c3
  have pc4 := ks_cell c4
  have pc11 := ks_cell c11
  have pd0 := ks_cell d0
  have pd12 := ks_cell d12
  have pd13 := ks_cell d13
  cases x1
  · refine wp_region_ks (by kernel_rfl) (by kernel_rfl) ?_
    (repeat (go_big_quiet_step (fail)))
    refine wpQuiet_nil ?_
    rintro _ ⟨u, rfl⟩
    have K2 := K1.trans u.property
    generalize u.val = w3 at *
    go_wp2
    go_ret
    exact ⟨rfl, K2⟩
  cases x2
  · refine wp_region_ks (by kernel_rfl) (by kernel_rfl) ?_
    (repeat (go_big_quiet_step (fail)))
    refine wpQuiet_nil ?_
    rintro _ ⟨u, rfl⟩
    have K2 := K1.trans u.property
    generalize u.val = w3 at *
    go_wp2
    go_ret
    exact ⟨rfl, K2⟩
  refine wp_region_ks (by kernel_rfl) (by kernel_rfl) ?_
  (repeat (go_big_quiet_step (fail)))
  refine wpQuiet_nil ?_
  rintro _ ⟨u, rfl⟩
  have K2 := K1.trans u.property
  generalize u.val = w3 at *
  go_wp2
  go_ret
  exact ⟨rfl, K2⟩
end Go.Proofs.Ytmnmphkkcabkiaa

namespace Go.Proofs.Ytmnmphkkcabkiaa
open Go.RowKit
def plD (l : List Rw) (g : Nat → Int) (r : Rw) : Bool :=
  if r.kind = 0 then plS r else if r.thread < 0 ∨ 6 ≤ r.thread then false
  else if g r.thread.toNat = -1 then plN g r else plQ g r (l.getD (g r.thread.toNat).toNat rw0)
def docOK (l : List Rw) (g : Nat → Int) (r : Rw) : Bool :=
  !decide (r.kind < 0) && !decide (17 < r.kind) && plD l g r && endD r && readD r (g (6 + r.thread.toNat))
structure Rl (l : List Rw) (i : Nat) (f g : Nat → Int) : Prop where
  cnt : ∀ t, t < 6 → f (t * 5 + 4) = g (6 + t)
  beg : f 30 = g 13
  att : f 31 = g 12
  las : ∀ t, t < 6 → (g t = -1 ∧ f (t * 5) = 0 ∧ f (t * 5 + 1) = -1) ∨ ∃ j : Nat, j < i ∧ g t = (j : Int) ∧ f (t * 5) = stR (l.getD j rw0) ∧ f (t * 5 + 1) = (l.getD j rw0).job ∧ f (t * 5 + 2) = (l.getD j rw0).try_ ∧ f (t * 5 + 3) = (l.getD j rw0).no
theorem Rl.start (l : List Rw) : Rl l 0 (f0 6) (g0 6) := by
  refine ⟨fun t ht => ?_, rfl, rfl, fun t ht => .inl ⟨?_, ?_, ?_⟩⟩
  · unfold f0 g0
    rw [if_neg (by omega), if_neg (by omega)]
  · unfold g0
    rw [if_pos ht]
  · unfold f0
    rw [if_neg (by omega)]
  · unfold f0
    rw [if_pos (by omega)]
theorem end_no {r : Rw} (h : ofD r.kind = false) : endD r = (r.fin == 0) := by
  have hc : comm r = false := by
    unfold comm
    have : (r.kind == 15) = false := by
      refine beq_eq_false_iff_ne.2 (fun e => ?_)
      rw [e] at h
      cases h
    rw [this]; rfl
  unfold endD
  rw [h, hc]
  by_cases e : r.fin = 0
  · rw [e]; rfl
  · have e1 : (r.fin == 0) = false := beq_eq_false_iff_ne.2 e
    have e2 : (r.fin != 0) = true := by simp [e]
    rw [e1, e2]
    simp
theorem read_no {r : Rw} {n : Int} (h : ofD r.kind = false) : readD r n = (!r.told && !r.puts) := by
  unfold readD
  rw [h]; rfl
theorem sil_no {r : Rw} {n : Int} (h : ofD r.kind = false) : (endD r && readD r n) = sil r := by
  rw [end_no h, read_no h]
  unfold sil
  rw [Bool.and_assoc]
theorem doc_no {l : List Rw} {g : Nat → Int} {r : Rw} (h : ofD r.kind = false) : docOK l g r = (!decide (r.kind < 0) && !decide (17 < r.kind) && plD l g r && sil r) := by
  unfold docOK
  rw [Bool.and_assoc, sil_no h]
theorem ofd_x {k : Int} (h1 : k ≠ 0) (h2 : k ≠ 1) (h3 : k ≠ 2) (h4 : k ≠ 17) : ofD k = true := by
  simp [ofD, h1, h2, h3, h4]
theorem end_yes {r : Rw} (h : ofD r.kind = true) : endD r = endP r := by
  unfold endD endP
  rw [h]
  by_cases g : r.fin = 0 ∨ r.fin = 1 ∨ r.fin = 2 ∨ r.fin = 3 ∨ r.fin = 4 ∨ r.fin = 5
  · rcases g with e | e | e | e | e | e <;> rw [e] <;> cases hc : comm r <;> simp
    all_goals
      unfold comm at hc
      simp only [Bool.and_eq_true, beq_iff_eq] at hc
      omega
  · have e1 : (decide (r.fin < 0) || decide (5 < r.fin) || (r.fin != 0 && !true)) = true := by
      by_cases g1 : r.fin < 0
      · simp [g1]
      · have : 5 < r.fin := by omega
        simp [this]
    rw [if_pos e1, if_neg (by omega), if_neg (by omega), if_neg (by omega)]
theorem fit_doc {l : List Rw} {i : Nat} {f g : Nat → Int} (h : Rl l i f g) (r : Rw) : fitP f r r.thread.toNat = docOK l g r := by
  by_cases h0 : r.kind = 0
  · have ho : ofD r.kind = false := by rw [h0]; rfl
    have e1 : plD l g r = plS r := by unfold plD; rw [if_pos h0]
    rw [doc_no ho, e1, h0]
    unfold fitP plS
    rw [if_pos h0, Bool.eq_iff_iff]
    simp
    intro _ _
    omega
  by_cases ha : r.thread < 0 ∨ 6 ≤ r.thread
  · have e1 : plD l g r = false := by unfold plD; rw [if_neg h0, if_pos ha]
    unfold docOK
    rw [e1]
    unfold fitP
    rw [if_neg h0, if_pos ha]
    simp
  have ht : r.thread.toNat < 6 := by omega
  generalize hth : r.thread.toNat = t at *
  have e1 : plD l g r = if g t = -1 then plN g r else plQ g r (l.getD (g t).toNat rw0) := by
    unfold plD
    rw [if_neg h0, if_neg ha, hth]
  have hcn := h.cnt t ht
  have hbe := h.beg
  have hat := h.att
  unfold fitP
  rw [if_neg h0, if_neg ha, hcn, hbe, hat]
  by_cases h1 : r.kind = 1
  · have ho : ofD r.kind = false := by rw [h1]; rfl
    rw [doc_no ho, e1, if_pos h1]
    rcases h.las t ht with ⟨a1, a2, a3⟩ | ⟨j, hj, a1, a2, a3, a4, a5⟩
    · rw [if_pos a1, a2, a3]
      unfold plN
      rw [h1]
      unfold eq3
      simp [Bool.and_assoc]
    · rw [if_neg (by omega), a1, a2, a3]
      unfold plQ
      rw [if_pos h1, h1, Int.toNat_natCast]
      unfold eq3
      simp [Bool.and_assoc]
  by_cases h2 : r.kind = 2
  · have ho : ofD r.kind = false := by rw [h2]; rfl
    rw [doc_no ho, e1, if_neg h1, if_pos h2]
    rcases h.las t ht with ⟨a1, a2, a3⟩ | ⟨j, hj, a1, a2, a3, a4, a5⟩
    · rw [if_pos a1, a2]
      unfold plN
      rw [h2]
      simp
    · rw [if_neg (by omega), a1, a2, a3, a4]
      unfold plQ
      rw [if_neg h1, if_pos h2, h2, Int.toNat_natCast]
      simp
  by_cases h17 : r.kind = 17
  · have ho : ofD r.kind = false := by rw [h17]; rfl
    rw [doc_no ho, e1, if_neg h1, if_neg h2, if_pos h17]
    rcases h.las t ht with ⟨a1, a2, a3⟩ | ⟨j, hj, a1, a2, a3, a4, a5⟩
    · rw [if_pos a1, a2]
      unfold plN
      rw [h17]
      simp
    · rw [if_neg (by omega), a1, a2, a3, a4, a5]
      unfold plQ
      rw [if_neg h1, if_neg h2, if_pos h17, h17, Int.toNat_natCast]
      simp
  have ho := ofd_x h0 h1 h2 h17
  have er : readD r (g (6 + t)) = readP r (g (6 + t)) := by unfold readD; rw [ho]; rfl
  unfold docOK
  rw [hth, e1, end_yes ho, er, if_neg h1, if_neg h2, if_neg h17]
  have hoA : ofA r.kind = (!decide (r.kind < 0) && !decide (17 < r.kind)) := by
    unfold ofA
    rw [Bool.eq_iff_iff]
    simp
    omega
  rw [hoA]
  rcases h.las t ht with ⟨a1, a2, a3⟩ | ⟨j, hj, a1, a2, a3, a4, a5⟩
  · have e2 : plN g r = false := by
      unfold plN
      have : (r.kind == 1) = false := beq_eq_false_iff_ne.2 h1
      rw [this]; rfl
    rw [if_pos a1, a2, e2]
    simp
  · rw [if_neg (by omega), a1, a2, a3, a4, a5]
    unfold plQ
    rw [if_neg h1, if_neg h2, if_neg h17, Int.toNat_natCast]
    simp [Bool.and_assoc]
theorem Rl.next {l : List Rw} {i : Nat} {f g : Nat → Int} (h : Rl l i f g) {r : Rw} (hr : l.getD i rw0 = r) (hf : fitP f r r.thread.toNat = true) : Rl l (i + 1) (folP f r r.thread.toNat) (kpD g r r.thread.toNat (i : Int)) := by
  by_cases h0 : r.kind = 0
  · unfold folP kpD
    rw [if_pos h0, if_pos h0]
    refine ⟨h.cnt, h.beg, h.att, fun t ht => ?_⟩
    rcases h.las t ht with e | ⟨j, hj, e⟩
    · exact .inl e
    · exact .inr ⟨j, by omega, e⟩
  have ha := fit_away hf h0
  have hth : r.thread.toNat < 6 := by omega
  generalize r.thread.toNat = u at *
  unfold fitP at hf
  rw [if_neg h0, if_neg (by omega)] at hf
  have hcu := h.cnt u hth
  -- what is left of the other threads
  have key : ∀ (F G : Nat → Int), (∀ t, t < 6 → t ≠ u → (∀ k, k < 5 → F (t * 5 + k) = f (t * 5 + k)) ∧ G t = g t ∧ G (6 + t) = g (6 + t)) → F (u * 5 + 4) = G (6 + u) → F 30 = G 13 → F 31 = G 12 → G u = (i : Int) → F (u * 5) = stR r → F (u * 5 + 1) = r.job → F (u * 5 + 2) = r.try_ → F (u * 5 + 3) = r.no → Rl l (i + 1) F G := by
    intro F G ho e1 e2 e3 e4 e5 e6 e7 e8
    refine ⟨fun t ht => ?_, e2, e3, fun t ht => ?_⟩
    · by_cases e : t = u
      · rw [e]; exact e1
      · obtain ⟨o1, o2, o3⟩ := ho t ht e
        rw [o1 4 (by omega), o3]
        exact h.cnt t ht
    · by_cases e : t = u
      · rw [e]
        exact .inr ⟨i, by omega, e4, by rw [hr]; exact ⟨e5, e6, e7, e8⟩⟩
      · obtain ⟨o1, o2, o3⟩ := ho t ht e
        have p0 : F (t * 5) = f (t * 5) := o1 0 (by omega)
        rw [p0, o1 1 (by omega), o1 2 (by omega), o1 3 (by omega), o2]
        rcases h.las t ht with e | ⟨j, hj, e⟩
        · exact .inl e
        · exact .inr ⟨j, by omega, e⟩
  by_cases h1 : r.kind = 1
  · rw [if_pos h1] at hf
    simp only [Bool.and_eq_true, sil_iff] at hf
    obtain ⟨-, s1, s2, -⟩ := hf
    have es : stR r = 1 := by unfold stR; rw [h1, s1]; rfl
    have eF : folP f r u = up (up (up (up (fol1 f r u) 30 (f 30 + 1)) 31 (f 31 + 1)) (u * 5) 1) (u * 5 + 4) 0 := by
      unfold folP fol3 fol2
      rw [h1, s1, s2]
      rfl
    have eG : kpD g r u (i : Int) = up (up (up (up g u i) 12 (g 12 + 1)) (6 + u) 0) 13 (g 13 + 1) := by
      unfold kpD
      rw [h1]
      rfl
    rw [eF, eG]
    unfold fol1
    refine key _ _ (fun t ht hne => ⟨fun k hk => ?_, ?_, ?_⟩) ?_ ?_ ?_ ?_ ?_ ?_ ?_ ?_
    · rw [up_other (by omega), up_other (by omega), up_other (by omega), up_other (by omega), up_other (by omega), up_other (by omega), up_other (by omega)]
    · rw [up_other (by omega), up_other (by omega), up_other (by omega), up_other (by omega)]
    · rw [up_other (by omega), up_other (by omega), up_other (by omega), up_other (by omega)]
    · rw [up_same, up_other (by omega), up_same]
    · rw [up_other (by omega), up_other (by omega), up_other (by omega), up_same, up_same, h.beg]
    · rw [up_other (by omega), up_other (by omega), up_same, up_other (by omega), up_other (by omega), up_same, h.att]
    · rw [up_other (by omega), up_other (by omega), up_other (by omega), up_same]
    · rw [up_other (by omega), up_same, es]
    · rw [up_other (by omega), up_other (by omega), up_other (by omega), up_other (by omega), up_other (by omega), up_other (by omega), up_same]
    · rw [up_other (by omega), up_other (by omega), up_other (by omega), up_other (by omega), up_other (by omega), up_same]
    · rw [up_other (by omega), up_other (by omega), up_other (by omega), up_other (by omega), up_same]
  by_cases h2 : r.kind = 2
  · rw [if_neg h1, if_pos h2] at hf
    simp only [Bool.and_eq_true, sil_iff] at hf
    obtain ⟨-, s1, s2, -⟩ := hf
    have es : stR r = 1 := by unfold stR; rw [h2, s1]; rfl
    have eF : folP f r u = up (up (up (fol1 f r u) 31 (f 31 + 1)) (u * 5) 1) (u * 5 + 4) 0 := by
      unfold folP fol3 fol2
      rw [h2, s1, s2]
      rfl
    have eG : kpD g r u (i : Int) = up (up (up g u i) 12 (g 12 + 1)) (6 + u) 0 := by
      unfold kpD
      rw [h2]
      rfl
    rw [eF, eG]
    unfold fol1
    refine key _ _ (fun t ht hne => ⟨fun k hk => ?_, ?_, ?_⟩) ?_ ?_ ?_ ?_ ?_ ?_ ?_ ?_
    · rw [up_other (by omega), up_other (by omega), up_other (by omega), up_other (by omega), up_other (by omega), up_other (by omega)]
    · rw [up_other (by omega), up_other (by omega), up_other (by omega)]
    · rw [up_other (by omega), up_other (by omega), up_other (by omega)]
    · rw [up_same, up_same]
    · rw [up_other (by omega), up_other (by omega), up_other (by omega), up_other (by omega), up_other (by omega), up_other (by omega), up_other (by omega), up_other (by omega), up_other (by omega), h.beg]
    · rw [up_other (by omega), up_other (by omega), up_same, up_other (by omega), up_same, h.att]
    · rw [up_other (by omega), up_other (by omega), up_same]
    · rw [up_other (by omega), up_same, es]
    · rw [up_other (by omega), up_other (by omega), up_other (by omega), up_other (by omega), up_other (by omega), up_same]
    · rw [up_other (by omega), up_other (by omega), up_other (by omega), up_other (by omega), up_same]
    · rw [up_other (by omega), up_other (by omega), up_other (by omega), up_same]
  by_cases h17 : r.kind = 17
  · rw [if_neg h1, if_neg h2, if_pos h17] at hf
    simp only [Bool.and_eq_true, sil_iff] at hf
    obtain ⟨-, s1, s2, -⟩ := hf
    have es : stR r = 0 := by unfold stR; rw [h17]; rfl
    have eF : folP f r u = up (fol1 f r u) (u * 5) 0 := by
      unfold folP fol3 fol2
      rw [h17, s1, s2]
      rfl
    have eG : kpD g r u (i : Int) = up g u i := by
      unfold kpD
      rw [h17, s2]
      rfl
    rw [eF, eG]
    unfold fol1
    refine key _ _ (fun t ht hne => ⟨fun k hk => ?_, ?_, ?_⟩) ?_ ?_ ?_ ?_ ?_ ?_ ?_ ?_
    · rw [up_other (by omega), up_other (by omega), up_other (by omega), up_other (by omega)]
    · rw [up_other (by omega)]
    · rw [up_other (by omega)]
    · rw [up_other (by omega), up_other (by omega), up_other (by omega), up_other (by omega), up_other (by omega)]
      exact hcu
    · rw [up_other (by omega), up_other (by omega), up_other (by omega), up_other (by omega), up_other (by omega), h.beg]
    · rw [up_other (by omega), up_other (by omega), up_other (by omega), up_other (by omega), up_other (by omega), h.att]
    · rw [up_same]
    · rw [up_same, es]
    · rw [up_other (by omega), up_other (by omega), up_other (by omega), up_same]
    · rw [up_other (by omega), up_other (by omega), up_same]
    · rw [up_other (by omega), up_same]
  rw [if_neg h1, if_neg h2, if_neg h17] at hf
  simp only [Bool.and_eq_true] at hf
  have hst : f (u * 5) = 1 := by simpa using hf.1.1.1.2
  have eF2 : fol2 f r u = fol1 f r u := by unfold fol2; rw [if_neg h1, if_neg h2, if_neg h17]
  have hFo : ∀ t, t < 6 → t ≠ u → ∀ k, k < 5 → folP f r u (t * 5 + k) = f (t * 5 + k) := fun t ht hne k hk => by
    unfold folP fol3
    rw [eF2, if_neg h0]
    unfold fol1
    repeat' split
    all_goals (repeat rw [up_other (by omega)])
  have eG : kpD g r u (i : Int) = if (r.told && r.entry == g (6 + u)) = true then up (up g u i) (6 + u) (g (6 + u) + 1) else up g u i := by
    unfold kpD
    rw [if_neg h0, if_neg h1, if_neg h2]
  have eF : ∀ o, o ≠ u * 5 → folP f r u o = fol3 f r u o := fun o ho => by
    unfold folP
    rw [if_neg h0]
    repeat' split
    · rw [up_other ho]
    · rw [up_other ho]
    · rfl
  have eS : folP f r u (u * 5) = stR r := by
    unfold folP stR
    rw [if_neg h0, if_neg h17]
    by_cases d : dec r.fin = true
    · rw [if_pos d, if_pos d, up_same]
    · rw [if_neg d, if_neg d]
      by_cases z : r.fin = 0
      · rw [if_neg (by simp [z]), if_neg (by simp [z])]
        unfold fol3
        rw [eF2]
        unfold fol1
        split
        · rw [up_other (by omega), up_other (by omega), up_other (by omega), up_other (by omega), hst]
        · rw [up_other (by omega), up_other (by omega), up_other (by omega), hst]
      · rw [if_pos (by simp [z]), if_pos (by simp [z]), up_same]
  have e3 : fol3 f r u = if (r.told && r.entry == g (6 + u)) = true then up (fol1 f r u) (u * 5 + 4) (g (6 + u) + 1) else fol1 f r u := by
    unfold fol3
    rw [eF2, hcu]
  rw [eG]
  have eF1 := eF (u * 5 + 1) (by omega)
  have eF2' := eF (u * 5 + 2) (by omega)
  have eF3 := eF (u * 5 + 3) (by omega)
  have eF4 := eF (u * 5 + 4) (by omega)
  have eF30 := eF 30 (by omega)
  have eF31 := eF 31 (by omega)
  rw [e3] at eF1 eF2' eF3 eF4 eF30 eF31
  by_cases c : (r.told && r.entry == g (6 + u)) = true
  · rw [if_pos c] at eF1 eF2' eF3 eF4 eF30 eF31 ⊢
    unfold fol1 at eF1 eF2' eF3 eF4 eF30 eF31
    refine key _ _ (fun t ht hne => ⟨fun k hk => hFo t ht hne k hk, ?_, ?_⟩) ?_ ?_ ?_ ?_ eS ?_ ?_ ?_
    · rw [up_other (by omega), up_other (by omega)]
    · rw [up_other (by omega), up_other (by omega)]
    · rw [eF4, up_same, up_same]
    · rw [eF30, up_other (by omega), up_other (by omega), up_other (by omega), up_other (by omega), up_other (by omega), up_other (by omega), h.beg]
    · rw [eF31, up_other (by omega), up_other (by omega), up_other (by omega), up_other (by omega), up_other (by omega), up_other (by omega), h.att]
    · rw [up_other (by omega), up_same]
    · rw [eF1, up_other (by omega), up_other (by omega), up_other (by omega), up_same]
    · rw [eF2', up_other (by omega), up_other (by omega), up_same]
    · rw [eF3, up_other (by omega), up_same]
  · rw [if_neg c] at eF1 eF2' eF3 eF4 eF30 eF31 ⊢
    unfold fol1 at eF1 eF2' eF3 eF4 eF30 eF31
    refine key _ _ (fun t ht hne => ⟨fun k hk => hFo t ht hne k hk, ?_, ?_⟩) ?_ ?_ ?_ ?_ eS ?_ ?_ ?_
    · rw [up_other (by omega)]
    · rw [up_other (by omega)]
    · rw [eF4, up_other (by omega), up_other (by omega), up_other (by omega), up_other (by omega)]
      exact hcu
    · rw [eF30, up_other (by omega), up_other (by omega), up_other (by omega), up_other (by omega), h.beg]
    · rw [eF31, up_other (by omega), up_other (by omega), up_other (by omega), up_other (by omega), h.att]
    · rw [up_same]
    · rw [eF1, up_other (by omega), up_other (by omega), up_same]
    · rw [eF2', up_other (by omega), up_same]
    · rw [eF3, up_same]
end Go.Proofs.Ytmnmphkkcabkiaa

