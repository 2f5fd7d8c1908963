import Derived.Test.YtlaacojicoeneaaHsF
namespace Go.Proofs.Ytlaacojicoeneaa
open Go.RowKit
/-- Rules 2 to 6, of a thread that has no row ahead. -/
def plN (g : Nat → Int) (r : Rw) : Bool := r.kind == 1 && r.job == 0 && r.try_ == 1 && r.no == g 12 + 1 && r.seen == g 13
/-- The same, behind the row q. -/
def plQ (g : Nat → Int) (r q : Rw) : Bool :=
  if r.kind = 1 then stR q == 0 && r.job == q.job + 1 && r.try_ == 1 && r.no == g 12 + 1 && r.seen == g 13
  else if r.kind = 2 then stR q == 2 && eq3 r.job r.try_ r.no q.job (q.try_ + 1) (g 12 + 1)
  else if r.kind = 17 then stR q == 3 && eq3 r.job r.try_ r.no q.job q.try_ q.no
  else stR q == 1 && eq3 r.job r.try_ r.no q.job q.try_ q.no
def plS (r : Rw) : Bool := r.thread == -1 && r.job == -1 && r.try_ == 0 && r.no == -1
set_option maxHeartbeats 1000000 in
set_option maxRecDepth 100000 in
theorem placed_stutter (w : World) {gb : Nat} {g : Nat → Int} (hB : IB w gb 14 g) {a : Option Addr} {l : List Rw} {cap : Nat} (hl : RSL w a l) (r : Rw) (hk : r.kind = 0) : Calls Try.prog 27 #[.pointer (some ⟨gb, 0, none⟩), .slice a l.length cap, .agg r.cells.toArray] w fun e w' => e = .returned (.bool (plS r)) ∧ Keeps (fun _ => False) w w' := by
  obtain ⟨w0, e0, k0, hb, hz0⟩ := rw_box w r
  have hB0 := hB.keep (by decide) k0 (fun e => e)
  have hl0 := hl.keep k0
  obtain ⟨hcl, c0, c1, c2, c3, c4, c5, c6, c7, c8, c11, c13, c17, c21, c25⟩ := hb
  clear c0 c6 c7 c8 c13 c17 c21 c25 hB hl
  rw [hk] at c5
  unfold plS
  clear hk hcl hB0 hl0 c11
  go_enter Try.func27, Try.ntmps27
  refine wp_seq_k (fun KK hKK => ?_)
  have hKH : Hid _ := hKK
  clear hKK
  go_wp2_with fail
  refine hKH.out _ _ ?_
  clear hKH KK
  rw [← e0]
  clear e0
  generalize l.length = N at *
  generalize r.thread = tr at *
  generalize r.try_ = ty at *
  generalize r.job = jb at *
  generalize r.no = nn at *
  cases h1 : (tr == -1)
  · go_wp2; go_ret; exact ⟨rfl, k0⟩
  cases h2 : (jb == -1)
  · go_wp2; go_ret; exact ⟨rfl, k0⟩
  cases h3 : (ty == 0)
  · go_wp2; go_ret; exact ⟨rfl, k0⟩
  go_wp2; go_ret; exact ⟨rfl, k0⟩
set_option maxHeartbeats 1000000 in
set_option maxRecDepth 100000 in
theorem placed_away (w : World) {gb : Nat} {g : Nat → Int} (hB : IB w gb 14 g) {a : Option Addr} {l : List Rw} {cap : Nat} (hl : RSL w a l) (r : Rw) (hk : r.kind ≠ 0) (ht : r.thread < 0 ∨ 6 ≤ r.thread) : Calls Try.prog 27 #[.pointer (some ⟨gb, 0, none⟩), .slice a l.length cap, .agg r.cells.toArray] w fun e w' => e = .returned (.bool (false)) ∧ Keeps (fun _ => False) w w' := by
  obtain ⟨w0, e0, k0, hb, hz0⟩ := rw_box w r
  have hB0 := hB.keep (by decide) k0 (fun e => e)
  have hl0 := hl.keep k0
  obtain ⟨hcl, c0, c1, c2, c3, c4, c5, c6, c7, c8, c11, c13, c17, c21, c25⟩ := hb
  clear c0 c6 c7 c8 c13 c17 c21 c25 hB hl
  have b0 : (r.kind == 0) = false := beq_eq_false_iff_ne.2 hk
  clear hk hcl hB0 hl0 c11 c2 c3 c4
  go_enter Try.func27, Try.ntmps27
  refine wp_seq_k (fun KK hKK => ?_)
  have hKH : Hid _ := hKK
  clear hKK
  go_wp2_with fail
  refine hKH.out _ _ ?_
  clear hKH KK
  rw [← e0]
  clear e0
  generalize l.length = N at *
  generalize r.thread = tr at *
  generalize r.kind = kd at *
  by_cases h1 : tr < 0
  · have b1 : decide (tr < 0) = true := decide_eq_true h1
    go_wp2; go_ret; exact ⟨rfl, k0⟩
  · have b1 : decide (tr < 0) = false := decide_eq_false h1
    have b2 : decide (6 ≤ tr) = true := decide_eq_true (by omega)
    go_wp2; go_ret; exact ⟨rfl, k0⟩
set_option maxHeartbeats 1000000 in
set_option maxRecDepth 100000 in
theorem placed_none (w : World) {gb : Nat} {g : Nat → Int} (hB : IB w gb 14 g) {a : Option Addr} {l : List Rw} {cap : Nat} (hl : RSL w a l) (r : Rw) (th : Nat) (hk : r.kind ≠ 0) (et : r.thread = (th : Int)) (ht : th < 6) (hG : ∀ i, i < 14 → g i + 1 ≤ 9223372036854775807 ∧ -9223372036854775808 ≤ g i) (hg : g th = -1) : Calls Try.prog 27 #[.pointer (some ⟨gb, 0, none⟩), .slice a l.length cap, .agg r.cells.toArray] w fun e w' => e = .returned (.bool (plN g r)) ∧ Keeps (fun _ => False) w w' := by
  obtain ⟨w0, e0, k0, hb, hz0⟩ := rw_box w r
  have hB0 := hB.keep (by decide) k0 (fun e => e)
  have hl0 := hl.keep k0
  obtain ⟨hcl, c0, c1, c2, c3, c4, c5, c6, c7, c8, c11, c13, c17, c21, c25⟩ := hb
  clear c0 c6 c7 c8 c13 c17 c21 c25 hB hl
  rw [et] at c1
  have i1 : (0 : Int) ≤ (th : Int) := by omega
  have i2 : (th : Int) < 6 := by omega
  have i3 : decide ((th : Int) < 0) = false := decide_eq_false (by omega)
  have i4 : decide ((6 : Int) ≤ (th : Int)) = false := decide_eq_false (by omega)
  have i5 : decide (6 ≤ th) = false := decide_eq_false (by omega)
  have d0 := hB0.c th (by omega)
  have d12 := hB0.c 12 (by decide)
  have d13 := hB0.c 13 (by decide)
  have hb12 := hG 12 (by decide)
  have hb13 := hG 13 (by decide)
  rw [hg] at d0
  have b0 : (r.kind == 0) = false := beq_eq_false_iff_ne.2 hk
  have hst := rstate_none w0 hB0 (a := a) (n := l.length) (cap := cap) th ht hg
  unfold plN
  clear hcl hl0 hg hG
  generalize l.length = N at *
  by_cases h1 : r.kind = 1
  · rw [h1] at c5
    rw [h1]
    generalize hx1 : (r.job == 0) = x1
    generalize hx2 : (r.try_ == 1) = x2
    generalize hx3 : (r.no == g 12 + 1) = x3
    generalize hx4 : (r.seen == g 13) = x4
    clear h1 hk b0
    go_enter Try.func27, Try.ntmps27
    refine wp_seq_k (fun KK hKK => ?_)
    have hKH : Hid _ := hKK
    clear hKK
    go_wp2_with fail
    refine hKH.out _ _ ?_
    clear hKH KK
    rw [← e0]
    clear e0
    go_wp2_with (go_at_call 49; refine hst.mono ?_; clear hst; rintro e w1 ⟨rfl, k1⟩; replace c1 := k1.cell c1 (fun e => e); replace c2 := k1.cell c2 (fun e => e); replace c3 := k1.cell c3 (fun e => e); replace c4 := k1.cell c4 (fun e => e); replace c11 := k1.cell c11 (fun e => e); replace d0 := k1.cell d0 (fun e => e); replace d12 := k1.cell d12 (fun e => e); replace d13 := k1.cell d13 (fun e => e); replace c5 := k1.cell c5 (fun e => e))
    have hNE := ks_ne c1
    have pc1 := ks_cell c1
    have pc2 := ks_cell c2
    have pc3 := ks_cell c3
    have pc4 := ks_cell c4
    have pc11 := ks_cell c11
    have pd0 := ks_cell d0
    have pd12 := ks_cell d12
    have pd13 := ks_cell d13
    refine wp_region_ks (by kernel_rfl) (by kernel_rfl) ?_
    (repeat (go_big_quiet_step (fail)))
    refine wpQuiet_nil ?_
    rintro _ ⟨u, rfl⟩
    clear pc1 pc2 pc3 pc4 pc11 pd0 pd12 pd13
    replace c1 := u.property.cell c1 (fun e => e)
    replace c2 := u.property.cell c2 (fun e => e)
    replace c3 := u.property.cell c3 (fun e => e)
    replace c4 := u.property.cell c4 (fun e => e)
    replace c11 := u.property.cell c11 (fun e => e)
    replace d0 := u.property.cell d0 (fun e => e)
    replace d12 := u.property.cell d12 (fun e => e)
    replace d13 := u.property.cell d13 (fun e => e)
    have K1 := (k0.trans k1).trans u.property
    generalize u.val = w2 at *
    clear hNE
    go_wp2_with fail
    have hNE := ks_ne c1
    have pc1 := ks_cell c1
    have pc2 := ks_cell c2
    have pc3 := ks_cell c3
    have pc4 := ks_cell c4
    have pc11 := ks_cell c11
    have pd0 := ks_cell d0
    have pd12 := ks_cell d12
    have pd13 := ks_cell d13
    cases x1
    · refine wp_region_ks (by kernel_rfl) (by kernel_rfl) ?_
      (repeat (go_big_quiet_step (fail)))
      refine wpQuiet_nil ?_
      rintro _ ⟨u, rfl⟩
      have K2 := K1.trans u.property
      generalize u.val = w3 at *
      go_wp2
      go_ret
      exact ⟨rfl, K2⟩
    cases x2
    · refine wp_region_ks (by kernel_rfl) (by kernel_rfl) ?_
      (repeat (go_big_quiet_step (fail)))
      refine wpQuiet_nil ?_
      rintro _ ⟨u, rfl⟩
      have K2 := K1.trans u.property
      generalize u.val = w3 at *
      go_wp2
      go_ret
      exact ⟨rfl, K2⟩
    cases x3
    · refine wp_region_ks (by kernel_rfl) (by kernel_rfl) ?_
      (repeat (go_big_quiet_step (fail)))
      refine wpQuiet_nil ?_
      rintro _ ⟨u, rfl⟩
      have K2 := K1.trans u.property
      generalize u.val = w3 at *
      go_wp2
      go_ret
      exact ⟨rfl, K2⟩
    refine wp_region_ks (by kernel_rfl) (by kernel_rfl) ?_
    (repeat (go_big_quiet_step (fail)))
    refine wpQuiet_nil ?_
    rintro _ ⟨u, rfl⟩
    have K2 := K1.trans u.property
    generalize u.val = w3 at *
    go_wp2
    go_ret
    exact ⟨rfl, K2⟩
  · have b1 : (r.kind == 1) = false := beq_eq_false_iff_ne.2 h1
    rw [b1]
    by_cases h2 : r.kind = 2
    · rw [h2] at c5
      clear h1 h2 hk b0 b1
      go_enter Try.func27, Try.ntmps27
      refine wp_seq_k (fun KK hKK => ?_)
      have hKH : Hid _ := hKK
      clear hKK
      go_wp2_with fail
      refine hKH.out _ _ ?_
      clear hKH KK
      rw [← e0]
      clear e0
      go_wp2_with (go_at_call 49; refine hst.mono ?_; clear hst; rintro e w1 ⟨rfl, k1⟩; replace c5 := k1.cell c5 (fun e => e))
      go_ret
      exact ⟨rfl, k0.trans k1⟩
    · have b2 : (r.kind == 2) = false := beq_eq_false_iff_ne.2 h2
      by_cases h17 : r.kind = 17
      · rw [h17] at c5
        clear h1 h2 hk b0 b1 b2 h17
        go_enter Try.func27, Try.ntmps27
        refine wp_seq_k (fun KK hKK => ?_)
        have hKH : Hid _ := hKK
        clear hKK
        go_wp2_with fail
        refine hKH.out _ _ ?_
        clear hKH KK
        rw [← e0]
        clear e0
        go_wp2_with (go_at_call 49; refine hst.mono ?_; clear hst; rintro e w1 ⟨rfl, k1⟩; replace c5 := k1.cell c5 (fun e => e))
        go_ret
        exact ⟨rfl, k0.trans k1⟩
      · have b17 : (r.kind == 17) = false := beq_eq_false_iff_ne.2 h17
        clear h1 h2 hk h17
        go_enter Try.func27, Try.ntmps27
        refine wp_seq_k (fun KK hKK => ?_)
        have hKH : Hid _ := hKK
        clear hKK
        go_wp2_with fail
        refine hKH.out _ _ ?_
        clear hKH KK
        rw [← e0]
        clear e0
        go_wp2_with (go_at_call 49; refine hst.mono ?_; clear hst; rintro e w1 ⟨rfl, k1⟩; replace c5 := k1.cell c5 (fun e => e))
        go_ret
        exact ⟨rfl, k0.trans k1⟩
end Go.Proofs.Ytlaacojicoeneaa
