import Derived.Test.YtmnmphkkcabkiaaG05
namespace Go.Proofs.Ytmnmphkkcabkiaa
open Go.RowKit
theorem IB.drew {w : World} {b n : Nat} {f : Nat → Int} (h : IB w b n f) : IB w.drew b n f := ⟨h.c, h.z⟩
def kpD (g : Nat → Int) (r : Rw) (th : Nat) (i : Int) : Nat → Int :=
  if r.kind = 0 then g
  else if r.kind = 1 then up (up (up (up g th i) 12 (g 12 + 1)) (6 + th) 0) 13 (g 13 + 1)
  else if r.kind = 2 then up (up (up g th i) 12 (g 12 + 1)) (6 + th) 0
  else if r.told && r.entry == g (6 + th) then up (up g th i) (6 + th) (g (6 + th) + 1) else up g th i
set_option maxHeartbeats 1000000 in
set_option maxRecDepth 100000 in
theorem rkeep_0 (w : World) {gb : Nat} {g : Nat → Int} (hK : IB w gb 14 g) (r : Rw) (th : Nat) (i : Int) (hk : r.kind = 0) : Calls Try.prog 50 #[.pointer (some ⟨gb, 0, none⟩), .agg r.cells.toArray, .int .i64 i] w fun e w' => e = .returned (.tuple #[]) ∧ IB w' gb 14 (kpD g r th i) ∧ Keeps (fun k => k = gb) w w' := by
  obtain ⟨w0, e0, k0, hb, hz0⟩ := rw_box w r
  have hK0 := hK.keep (by decide) k0 (fun e => e)
  have hne : ¬ gb = w.heap.size := fun e => by have := hK.lt (by decide); omega
  have hne2 : ¬ w.heap.size = gb := fun e => hne e.symm
  have k0 := k0.mono (T := fun k => k = gb) (fun _ _ e => e.elim)
  obtain ⟨hcl, c0, c1, c2, c3, c4, c5, c6, c7, c8, c11, c13, c17, c21, c25⟩ := hb
  clear c0 c2 c3 c4 c6 c7 c11 c13 c21 c25 hcl hK
  have e1 : kpD g r th i = g := by unfold kpD; rw [if_pos hk]
  rw [e1]
  rw [hk] at c5
  clear hk
  go_enter Try.func50, Try.ntmps50
  refine wp_seq_k (fun KK hKK => ?_)
  have hKH : Hid _ := hKK
  clear hKK
  go_wp2_with fail
  refine hKH.out _ _ ?_
  clear hKH KK
  rw [← e0]
  clear e0
  go_wp2
  exact bodyPost_ret (v := .tuple #[]) (results_none rfl _ _ _) rfl ⟨rfl, hK0, k0⟩
set_option maxHeartbeats 1000000 in
set_option maxRecDepth 100000 in
theorem rkeep_x (w : World) {gb : Nat} {g : Nat → Int} (hK : IB w gb 14 g) (r : Rw) (th : Nat) (i : Int) (hk : r.kind ≠ 0 ∧ r.kind ≠ 1 ∧ r.kind ≠ 2) (et : r.thread = (th : Int)) (ht : th < 6) (hB : ∀ i, i < 14 → g i + 1 ≤ 9223372036854775807 ∧ -9223372036854775808 ≤ g i) : Calls Try.prog 50 #[.pointer (some ⟨gb, 0, none⟩), .agg r.cells.toArray, .int .i64 i] w fun e w' => e = .returned (.tuple #[]) ∧ IB w' gb 14 (kpD g r th i) ∧ Keeps (fun k => k = gb) w w' := by
  obtain ⟨w0, e0, k0, hb, hz0⟩ := rw_box w r
  have hK0 := hK.keep (by decide) k0 (fun e => e)
  have hne : ¬ gb = w.heap.size := fun e => by have := hK.lt (by decide); omega
  have hne2 : ¬ w.heap.size = gb := fun e => hne e.symm
  have k0 := k0.mono (T := fun k => k = gb) (fun _ _ e => e.elim)
  obtain ⟨hcl, c0, c1, c2, c3, c4, c5, c6, c7, c8, c11, c13, c17, c21, c25⟩ := hb
  clear c0 c2 c3 c4 c6 c7 c11 c13 c21 c25 hcl hK
  rw [et] at c1
  have i1 : (0 : Int) ≤ (th : Int) := by omega
  have i2 : (th : Int) < 6 := by omega
  have v12 : IntKind.i64.wrap (g 12 + 1) = g 12 + 1 := by have := hB 12 (by omega); rw [IntKind.wrap_i64]; omega
  have v13 : IntKind.i64.wrap (g 13 + 1) = g 13 + 1 := by have := hB 13 (by omega); rw [IntKind.wrap_i64]; omega
  have v6 : IntKind.i64.wrap (g (6 + th) + 1) = g (6 + th) + 1 := by have := hB (6 + th) (by omega); rw [IntKind.wrap_i64]; omega
  have n12 : ¬ th = 12 := by omega
  have n13 : ¬ th = 13 := by omega
  clear hB et
  have y0 := hK0.c th (by omega)
  have y1 := hK0.z th (by omega)
  have b0 : (r.kind == 0) = false := beq_eq_false_iff_ne.2 hk.1
  have b1 : (r.kind == 1) = false := beq_eq_false_iff_ne.2 hk.2.1
  have b2 : (r.kind == 2) = false := beq_eq_false_iff_ne.2 hk.2.2
  have hF : kpD g r th i = (if (r.told && r.entry == g (6 + th)) = true then up (up g th i) (6 + th) (g (6 + th) + 1) else up g th i) := by
    unfold kpD
    rw [if_neg hk.1, if_neg hk.2.1, if_neg hk.2.2]
  rw [hF]
  clear hF hk
  generalize r.told = tl at *
  generalize r.kind = kd at *
  generalize r.entry = en at *
  generalize hz2 : (en == g (6 + th)) = z2
  go_enter Try.func50, Try.ntmps50
  refine wp_seq_k (fun KK hKK => ?_)
  have hKH : Hid _ := hKK
  clear hKK
  go_wp2_with fail
  refine hKH.out _ _ ?_
  clear hKH KK
  rw [← e0]
  clear e0
  go_wp2_with fail
  go_region
  clear y0 y1
  generalize h9 : World.drew _ = w1
  have q9 : Keeps (fun k => k = gb) w0 w1 := by rw [← h9]; exact ((Keeps.refl (fun k => k = gb) w0).setCell (p := ⟨gb, th, none⟩) (fun _ => rfl) _).drew
  have hK1 : IB w1 gb 14 (up g (th) i) := by rw [← h9]; exact (hK0.set (by omega) _).drew
  replace c1 := q9.cell c1 hne2
  replace c5 := q9.cell c5 hne2
  replace c8 := q9.cell c8 hne2
  replace c17 := q9.cell c17 hne2
  have k1 := k0.trans q9
  clear h9 q9 k0 hK0
  have d6 : w1.cell? ⟨gb, 6 + th, none⟩ = some (.int .i64 (g (6 + th))) := by
    have := hK1.c (6 + th) (by omega)
    rwa [up_other (by omega)] at this
  go_wp2_with fail
  cases tl
  · have hNE3 := ks_ne c17
    have p1 := ks_cell c1
    have p8 := ks_cell c8
    have p17 := ks_cell c17
    refine wp_region_ks (by kernel_rfl) (by kernel_rfl) ?_
    (repeat (go_big_quiet_step (fail)))
    refine wpQuiet_nil ?_
    rintro _ ⟨u, rfl⟩
    replace hK1 := hK1.keep (by decide) u.property (fun e => e)
    replace k1 := k1.trans (u.property.mono (T := fun k => k = gb) (fun _ _ e => e.elim))
    replace c1 := u.property.cell c1 (fun e => e)
    clear hNE3 p1 p8 p17 c5 c8 c17
    generalize u.val = w8 at *
    go_wp2
    go_end0
    exact ⟨rfl, hK1, k1⟩
  have p6 := ks_cell d6
  cases z2
  · have hNE3 := ks_ne c17
    have p1 := ks_cell c1
    have p8 := ks_cell c8
    have p17 := ks_cell c17
    refine wp_region_ks (by kernel_rfl) (by kernel_rfl) ?_
    (repeat (go_big_quiet_step (fail)))
    refine wpQuiet_nil ?_
    rintro _ ⟨u, rfl⟩
    replace hK1 := hK1.keep (by decide) u.property (fun e => e)
    replace k1 := k1.trans (u.property.mono (T := fun k => k = gb) (fun _ _ e => e.elim))
    replace c1 := u.property.cell c1 (fun e => e)
    clear hNE3 p1 p8 p17 c5 c8 c17
    generalize u.val = w8 at *
    go_wp2
    go_end0
    exact ⟨rfl, hK1, k1⟩
  have hNE3 := ks_ne c17
  have p1 := ks_cell c1
  have p8 := ks_cell c8
  have p17 := ks_cell c17
  refine wp_region_ks (by kernel_rfl) (by kernel_rfl) ?_
  (repeat (go_big_quiet_step (fail)))
  refine wpQuiet_nil ?_
  rintro _ ⟨u, rfl⟩
  replace hK1 := hK1.keep (by decide) u.property (fun e => e)
  replace k1 := k1.trans (u.property.mono (T := fun k => k = gb) (fun _ _ e => e.elim))
  replace c1 := u.property.cell c1 (fun e => e)
  clear hNE3 p1 p8 p17 c5 c8 c17
  generalize u.val = w8 at *
  have d7 : w8.cell? ⟨gb, 6 + th, none⟩ = some (.int .i64 (g (6 + th))) := by
    have := hK1.c (6 + th) (by omega)
    rwa [up_other (by omega)] at this
  have z7 := hK1.z (6 + th) (by omega)
  clear d6 p6
  go_wp2_with fail
  go_region
  generalize h9 : World.drew _ = w9
  have q9 : Keeps (fun k => k = gb) w8 w9 := by rw [← h9]; exact ((Keeps.refl (fun k => k = gb) w8).setCell (p := ⟨gb, 6 + th, none⟩) (fun _ => rfl) _).drew
  have hK9 : IB w9 gb 14 (up (up g th i) (6 + th) (g (6 + th) + 1)) := by rw [← h9]; exact (hK1.set (by omega) _).drew
  clear h9
  go_wp2
  go_end0
  exact ⟨rfl, hK9, k1.trans q9⟩
set_option maxHeartbeats 1000000 in
set_option maxRecDepth 100000 in
theorem rkeep_2 (w : World) {gb : Nat} {g : Nat → Int} (hK : IB w gb 14 g) (r : Rw) (th : Nat) (i : Int) (hk : r.kind = 2) (htl : r.told = false) (et : r.thread = (th : Int)) (ht : th < 6) (hB : ∀ i, i < 14 → g i + 1 ≤ 9223372036854775807 ∧ -9223372036854775808 ≤ g i) : Calls Try.prog 50 #[.pointer (some ⟨gb, 0, none⟩), .agg r.cells.toArray, .int .i64 i] w fun e w' => e = .returned (.tuple #[]) ∧ IB w' gb 14 (kpD g r th i) ∧ Keeps (fun k => k = gb) w w' := by
  obtain ⟨w0, e0, k0, hb, hz0⟩ := rw_box w r
  have hK0 := hK.keep (by decide) k0 (fun e => e)
  have hne : ¬ gb = w.heap.size := fun e => by have := hK.lt (by decide); omega
  have hne2 : ¬ w.heap.size = gb := fun e => hne e.symm
  have k0 := k0.mono (T := fun k => k = gb) (fun _ _ e => e.elim)
  obtain ⟨hcl, c0, c1, c2, c3, c4, c5, c6, c7, c8, c11, c13, c17, c21, c25⟩ := hb
  clear c0 c2 c3 c4 c6 c7 c11 c13 c21 c25 hcl hK
  rw [et] at c1
  have i1 : (0 : Int) ≤ (th : Int) := by omega
  have i2 : (th : Int) < 6 := by omega
  have v12 : IntKind.i64.wrap (g 12 + 1) = g 12 + 1 := by have := hB 12 (by omega); rw [IntKind.wrap_i64]; omega
  have v13 : IntKind.i64.wrap (g 13 + 1) = g 13 + 1 := by have := hB 13 (by omega); rw [IntKind.wrap_i64]; omega
  have v6 : IntKind.i64.wrap (g (6 + th) + 1) = g (6 + th) + 1 := by have := hB (6 + th) (by omega); rw [IntKind.wrap_i64]; omega
  have n12 : ¬ th = 12 := by omega
  have n13 : ¬ th = 13 := by omega
  clear hB et
  have y0 := hK0.c th (by omega)
  have y1 := hK0.z th (by omega)
  rw [hk] at c5
  rw [htl] at c17
  have hF : kpD g r th i = up (up (up g th i) 12 (g 12 + 1)) (6 + th) 0 := by
    unfold kpD
    rw [hk]
    rfl
  rw [hF]
  clear hF hk htl
  go_enter Try.func50, Try.ntmps50
  refine wp_seq_k (fun KK hKK => ?_)
  have hKH : Hid _ := hKK
  clear hKK
  go_wp2_with fail
  refine hKH.out _ _ ?_
  clear hKH KK
  rw [← e0]
  clear e0
  go_wp2_with fail
  go_region
  clear y0 y1
  generalize h9 : World.drew _ = w1
  have q9 : Keeps (fun k => k = gb) w0 w1 := by rw [← h9]; exact ((Keeps.refl (fun k => k = gb) w0).setCell (p := ⟨gb, th, none⟩) (fun _ => rfl) _).drew
  have hK1 : IB w1 gb 14 (up g (th) i) := by rw [← h9]; exact (hK0.set (by omega) _).drew
  replace c1 := q9.cell c1 hne2
  replace c5 := q9.cell c5 hne2
  replace c8 := q9.cell c8 hne2
  replace c17 := q9.cell c17 hne2
  have k1 := k0.trans q9
  clear h9 q9 k0 hK0
  have d12 : w1.cell? ⟨gb, 12, none⟩ = some (.int .i64 (g 12)) := by
    have := hK1.c 12 (by omega)
    rwa [up_other (by omega)] at this
  go_wp2_with (refine wpList_store_ib rfl rfl _ _ rfl gb 12 rfl _ rfl hK1 (by omega) ?_; intro w2 hK2 k2 hz2; clear hz2; replace c1 := k2.cell c1 hne2; replace c5 := k2.cell c5 hne2; replace c8 := k2.cell c8 hne2; replace c17 := k2.cell c17 hne2; have y0 := hK2.c (6 + th) (by omega); have y1 := hK2.z (6 + th) (by omega); have k2' := k1.trans k2)
  go_region
  clear y0 y1
  generalize h9 : World.drew _ = w3
  have q9 : Keeps (fun k => k = gb) w2 w3 := by rw [← h9]; exact ((Keeps.refl (fun k => k = gb) w2).setCell (p := ⟨gb, 6 + th, none⟩) (fun _ => rfl) _).drew
  have hK3 : IB w3 gb 14 (up (up (up g th i) 12 (g 12 + 1)) (6 + th) 0) := by rw [← h9]; exact (hK2.set (by omega) _).drew
  replace c1 := q9.cell c1 hne2
  replace c5 := q9.cell c5 hne2
  replace c8 := q9.cell c8 hne2
  replace c17 := q9.cell c17 hne2
  have k3 := k2'.trans q9
  clear h9 q9 k2' hK2
  go_wp2_with fail
  have hNE3 := ks_ne c17
  have p1 := ks_cell c1
  have p8 := ks_cell c8
  have p17 := ks_cell c17
  refine wp_region_ks (by kernel_rfl) (by kernel_rfl) ?_
  (repeat (go_big_quiet_step (fail)))
  refine wpQuiet_nil ?_
  rintro _ ⟨u, rfl⟩
  replace hK3 := hK3.keep (by decide) u.property (fun e => e)
  replace k3 := k3.trans (u.property.mono (T := fun k => k = gb) (fun _ _ e => e.elim))
  replace c1 := u.property.cell c1 (fun e => e)
  clear hNE3 p1 p8 p17 c5 c8 c17
  generalize u.val = w8 at *
  go_wp2
  go_end0
  exact ⟨rfl, hK3, k3⟩
set_option maxHeartbeats 1000000 in
set_option maxRecDepth 100000 in
theorem rkeep_1 (w : World) {gb : Nat} {g : Nat → Int} (hK : IB w gb 14 g) (r : Rw) (th : Nat) (i : Int) (hk : r.kind = 1) (htl : r.told = false) (et : r.thread = (th : Int)) (ht : th < 6) (hB : ∀ i, i < 14 → g i + 1 ≤ 9223372036854775807 ∧ -9223372036854775808 ≤ g i) : Calls Try.prog 50 #[.pointer (some ⟨gb, 0, none⟩), .agg r.cells.toArray, .int .i64 i] w fun e w' => e = .returned (.tuple #[]) ∧ IB w' gb 14 (kpD g r th i) ∧ Keeps (fun k => k = gb) w w' := by
  obtain ⟨w0, e0, k0, hb, hz0⟩ := rw_box w r
  have hK0 := hK.keep (by decide) k0 (fun e => e)
  have hne : ¬ gb = w.heap.size := fun e => by have := hK.lt (by decide); omega
  have hne2 : ¬ w.heap.size = gb := fun e => hne e.symm
  have k0 := k0.mono (T := fun k => k = gb) (fun _ _ e => e.elim)
  obtain ⟨hcl, c0, c1, c2, c3, c4, c5, c6, c7, c8, c11, c13, c17, c21, c25⟩ := hb
  clear c0 c2 c3 c4 c6 c7 c11 c13 c21 c25 hcl hK
  rw [et] at c1
  have i1 : (0 : Int) ≤ (th : Int) := by omega
  have i2 : (th : Int) < 6 := by omega
  have v12 : IntKind.i64.wrap (g 12 + 1) = g 12 + 1 := by have := hB 12 (by omega); rw [IntKind.wrap_i64]; omega
  have v13 : IntKind.i64.wrap (g 13 + 1) = g 13 + 1 := by have := hB 13 (by omega); rw [IntKind.wrap_i64]; omega
  have v6 : IntKind.i64.wrap (g (6 + th) + 1) = g (6 + th) + 1 := by have := hB (6 + th) (by omega); rw [IntKind.wrap_i64]; omega
  have n12 : ¬ th = 12 := by omega
  have n13 : ¬ th = 13 := by omega
  clear hB et
  have y0 := hK0.c th (by omega)
  have y1 := hK0.z th (by omega)
  rw [hk] at c5
  rw [htl] at c17
  have hF : kpD g r th i = up (up (up (up g th i) 12 (g 12 + 1)) (6 + th) 0) 13 (g 13 + 1) := by
    unfold kpD
    rw [hk]
    rfl
  rw [hF]
  clear hF hk htl
  go_enter Try.func50, Try.ntmps50
  refine wp_seq_k (fun KK hKK => ?_)
  have hKH : Hid _ := hKK
  clear hKK
  go_wp2_with fail
  refine hKH.out _ _ ?_
  clear hKH KK
  rw [← e0]
  clear e0
  go_wp2_with fail
  go_region
  clear y0 y1
  generalize h9 : World.drew _ = w1
  have q9 : Keeps (fun k => k = gb) w0 w1 := by rw [← h9]; exact ((Keeps.refl (fun k => k = gb) w0).setCell (p := ⟨gb, th, none⟩) (fun _ => rfl) _).drew
  have hK1 : IB w1 gb 14 (up g (th) i) := by rw [← h9]; exact (hK0.set (by omega) _).drew
  replace c1 := q9.cell c1 hne2
  replace c5 := q9.cell c5 hne2
  replace c8 := q9.cell c8 hne2
  replace c17 := q9.cell c17 hne2
  have k1 := k0.trans q9
  clear h9 q9 k0 hK0
  have d12 : w1.cell? ⟨gb, 12, none⟩ = some (.int .i64 (g 12)) := by
    have := hK1.c 12 (by omega)
    rwa [up_other (by omega)] at this
  go_wp2_with (refine wpList_store_ib rfl rfl _ _ rfl gb 12 rfl _ rfl hK1 (by omega) ?_; intro w2 hK2 k2 hz2; clear hz2; replace c1 := k2.cell c1 hne2; replace c5 := k2.cell c5 hne2; replace c8 := k2.cell c8 hne2; replace c17 := k2.cell c17 hne2; have y0 := hK2.c (6 + th) (by omega); have y1 := hK2.z (6 + th) (by omega); have k2' := k1.trans k2)
  go_region
  clear y0 y1
  generalize h9 : World.drew _ = w3
  have q9 : Keeps (fun k => k = gb) w2 w3 := by rw [← h9]; exact ((Keeps.refl (fun k => k = gb) w2).setCell (p := ⟨gb, 6 + th, none⟩) (fun _ => rfl) _).drew
  have hK3 : IB w3 gb 14 (up (up (up g th i) 12 (g 12 + 1)) (6 + th) 0) := by rw [← h9]; exact (hK2.set (by omega) _).drew
  replace c1 := q9.cell c1 hne2
  replace c5 := q9.cell c5 hne2
  replace c8 := q9.cell c8 hne2
  replace c17 := q9.cell c17 hne2
  have k3 := k2'.trans q9
  clear h9 q9 k2' hK2
  have d13 : w3.cell? ⟨gb, 13, none⟩ = some (.int .i64 (g 13)) := by
    have := hK3.c 13 (by omega)
    rwa [up_other (by omega), up_other (by omega), up_other (by omega)] at this
  go_wp2_with (refine wpList_store_ib rfl rfl _ _ rfl gb 13 rfl _ rfl hK3 (by omega) ?_; intro w4 hK4 k4 hz4; clear hz4; replace c1 := k4.cell c1 hne2; replace c5 := k4.cell c5 hne2; replace c8 := k4.cell c8 hne2; replace c17 := k4.cell c17 hne2; have k4' := k3.trans k4)
  have hNE3 := ks_ne c17
  have p1 := ks_cell c1
  have p8 := ks_cell c8
  have p17 := ks_cell c17
  refine wp_region_ks (by kernel_rfl) (by kernel_rfl) ?_
  (repeat (go_big_quiet_step (fail)))
  refine wpQuiet_nil ?_
  rintro _ ⟨u, rfl⟩
  replace hK4 := hK4.keep (by decide) u.property (fun e => e)
  replace k4' := k4'.trans (u.property.mono (T := fun k => k = gb) (fun _ _ e => e.elim))
  replace c1 := u.property.cell c1 (fun e => e)
  clear hNE3 p1 p8 p17 c5 c8 c17
  generalize u.val = w8 at *
  go_wp2
  go_end0
  exact ⟨rfl, hK4, k4'⟩
end Go.Proofs.Ytmnmphkkcabkiaa

namespace Go.Proofs.Ytmnmphkkcabkiaa
open Go.RowKit
def plN (g : Nat → Int) (r : Rw) : Bool := r.kind == 1 && r.job == 0 && r.try_ == 1 && r.no == g 12 + 1 && r.seen == g 13
def plQ (g : Nat → Int) (r q : Rw) : Bool :=
  if r.kind = 1 then stR q == 0 && r.job == q.job + 1 && r.try_ == 1 && r.no == g 12 + 1 && r.seen == g 13
  else if r.kind = 2 then stR q == 2 && eq3 r.job r.try_ r.no q.job (q.try_ + 1) (g 12 + 1)
  else if r.kind = 17 then stR q == 3 && eq3 r.job r.try_ r.no q.job q.try_ q.no
  else stR q == 1 && eq3 r.job r.try_ r.no q.job q.try_ q.no
def plS (r : Rw) : Bool := r.thread == -1 && r.job == -1 && r.try_ == 0 && r.no == -1
set_option maxHeartbeats 1000000 in
set_option maxRecDepth 100000 in
theorem placed_stutter (w : World) {gb : Nat} {g : Nat → Int} (hB : IB w gb 14 g) {a : Option Addr} {l : List Rw} {cap : Nat} (hl : RSL w a l) (r : Rw) (hk : r.kind = 0) : Calls Try.prog 47 #[.pointer (some ⟨gb, 0, none⟩), .slice a l.length cap, .agg r.cells.toArray] w fun e w' => e = .returned (.bool (plS r)) ∧ Keeps (fun _ => False) w w' := by
  obtain ⟨w0, e0, k0, hb, hz0⟩ := rw_box w r
  have hB0 := hB.keep (by decide) k0 (fun e => e)
  have hl0 := hl.keep k0
  obtain ⟨hcl, c0, c1, c2, c3, c4, c5, c6, c7, c8, c11, c13, c17, c21, c25⟩ := hb
  clear c0 c6 c7 c8 c13 c17 c21 c25 hB hl
  rw [hk] at c5
  unfold plS
  clear hk hcl hB0 hl0 c11
  go_enter Try.func47, Try.ntmps47
  refine wp_seq_k (fun KK hKK => ?_)
  have hKH : Hid _ := hKK
  clear hKK
  go_wp2_with fail
  refine hKH.out _ _ ?_
  clear hKH KK
  rw [← e0]
  clear e0
  generalize l.length = N at *
  generalize r.thread = tr at *
  generalize r.try_ = ty at *
  generalize r.job = jb at *
  generalize r.no = nn at *
  cases h1 : (tr == -1)
  · go_wp2; go_ret; exact ⟨rfl, k0⟩
  cases h2 : (jb == -1)
  · go_wp2; go_ret; exact ⟨rfl, k0⟩
  cases h3 : (ty == 0)
  · go_wp2; go_ret; exact ⟨rfl, k0⟩
  go_wp2; go_ret; exact ⟨rfl, k0⟩
set_option maxHeartbeats 1000000 in
set_option maxRecDepth 100000 in
theorem placed_away (w : World) {gb : Nat} {g : Nat → Int} (hB : IB w gb 14 g) {a : Option Addr} {l : List Rw} {cap : Nat} (hl : RSL w a l) (r : Rw) (hk : r.kind ≠ 0) (ht : r.thread < 0 ∨ 6 ≤ r.thread) : Calls Try.prog 47 #[.pointer (some ⟨gb, 0, none⟩), .slice a l.length cap, .agg r.cells.toArray] w fun e w' => e = .returned (.bool (false)) ∧ Keeps (fun _ => False) w w' := by
  obtain ⟨w0, e0, k0, hb, hz0⟩ := rw_box w r
  have hB0 := hB.keep (by decide) k0 (fun e => e)
  have hl0 := hl.keep k0
  obtain ⟨hcl, c0, c1, c2, c3, c4, c5, c6, c7, c8, c11, c13, c17, c21, c25⟩ := hb
  clear c0 c6 c7 c8 c13 c17 c21 c25 hB hl
  have b0 : (r.kind == 0) = false := beq_eq_false_iff_ne.2 hk
  clear hk hcl hB0 hl0 c11 c2 c3 c4
  go_enter Try.func47, Try.ntmps47
  refine wp_seq_k (fun KK hKK => ?_)
  have hKH : Hid _ := hKK
  clear hKK
  go_wp2_with fail
  refine hKH.out _ _ ?_
  clear hKH KK
  rw [← e0]
  clear e0
  generalize l.length = N at *
  generalize r.thread = tr at *
  generalize r.kind = kd at *
  by_cases h1 : tr < 0
  · have b1 : decide (tr < 0) = true := decide_eq_true h1
    go_wp2; go_ret; exact ⟨rfl, k0⟩
  · have b1 : decide (tr < 0) = false := decide_eq_false h1
    have b2 : decide (6 ≤ tr) = true := decide_eq_true (by omega)
    go_wp2; go_ret; exact ⟨rfl, k0⟩
set_option maxHeartbeats 1000000 in
set_option maxRecDepth 100000 in
theorem placed_none (w : World) {gb : Nat} {g : Nat → Int} (hB : IB w gb 14 g) {a : Option Addr} {l : List Rw} {cap : Nat} (hl : RSL w a l) (r : Rw) (th : Nat) (hk : r.kind ≠ 0) (et : r.thread = (th : Int)) (ht : th < 6) (hG : ∀ i, i < 14 → g i + 1 ≤ 9223372036854775807 ∧ -9223372036854775808 ≤ g i) (hg : g th = -1) : Calls Try.prog 47 #[.pointer (some ⟨gb, 0, none⟩), .slice a l.length cap, .agg r.cells.toArray] w fun e w' => e = .returned (.bool (plN g r)) ∧ Keeps (fun _ => False) w w' := by
  obtain ⟨w0, e0, k0, hb, hz0⟩ := rw_box w r
  have hB0 := hB.keep (by decide) k0 (fun e => e)
  have hl0 := hl.keep k0
  obtain ⟨hcl, c0, c1, c2, c3, c4, c5, c6, c7, c8, c11, c13, c17, c21, c25⟩ := hb
  clear c0 c6 c7 c8 c13 c17 c21 c25 hB hl
  rw [et] at c1
  have i1 : (0 : Int) ≤ (th : Int) := by omega
  have i2 : (th : Int) < 6 := by omega
  have i3 : decide ((th : Int) < 0) = false := decide_eq_false (by omega)
  have i4 : decide ((6 : Int) ≤ (th : Int)) = false := decide_eq_false (by omega)
  have i5 : decide (6 ≤ th) = false := decide_eq_false (by omega)
  have d0 := hB0.c th (by omega)
  have d12 := hB0.c 12 (by decide)
  have d13 := hB0.c 13 (by decide)
  have hb12 := hG 12 (by decide)
  have hb13 := hG 13 (by decide)
  rw [hg] at d0
  have b0 : (r.kind == 0) = false := beq_eq_false_iff_ne.2 hk
  have hst := rstate_none w0 hB0 (a := a) (n := l.length) (cap := cap) th ht hg
  unfold plN
  clear hcl hl0 hg hG
  generalize l.length = N at *
  by_cases h1 : r.kind = 1
  · rw [h1] at c5
    rw [h1]
    generalize hx1 : (r.job == 0) = x1
    generalize hx2 : (r.try_ == 1) = x2
    generalize hx3 : (r.no == g 12 + 1) = x3
    generalize hx4 : (r.seen == g 13) = x4
    clear h1 hk b0
    go_enter Try.func47, Try.ntmps47
    refine wp_seq_k (fun KK hKK => ?_)
    have hKH : Hid _ := hKK
    clear hKK
    go_wp2_with fail
    refine hKH.out _ _ ?_
    clear hKH KK
    rw [← e0]
    clear e0
    go_wp2_with (go_at_call 60; refine hst.mono ?_; clear hst; rintro e w1 ⟨rfl, k1⟩; replace c1 := k1.cell c1 (fun e => e); replace c2 := k1.cell c2 (fun e => e); replace c3 := k1.cell c3 (fun e => e); replace c4 := k1.cell c4 (fun e => e); replace c11 := k1.cell c11 (fun e => e); replace d0 := k1.cell d0 (fun e => e); replace d12 := k1.cell d12 (fun e => e); replace d13 := k1.cell d13 (fun e => e); replace c5 := k1.cell c5 (fun e => e))
    have hNE := ks_ne c1
    have pc1 := ks_cell c1
    have pc2 := ks_cell c2
    have pc3 := ks_cell c3
    have pc4 := ks_cell c4
    have pc11 := ks_cell c11
    have pd0 := ks_cell d0
    have pd12 := ks_cell d12
    have pd13 := ks_cell d13
    refine wp_region_ks (by kernel_rfl) (by kernel_rfl) ?_
    (repeat (go_big_quiet_step (fail)))
    refine wpQuiet_nil ?_
    rintro _ ⟨u, rfl⟩
    clear pc1 pc2 pc3 pc4 pc11 pd0 pd12 pd13
    replace c1 := u.property.cell c1 (fun e => e)
    replace c2 := u.property.cell c2 (fun e => e)
    replace c3 := u.property.cell c3 (fun e => e)
    replace c4 := u.property.cell c4 (fun e => e)
    replace c11 := u.property.cell c11 (fun e => e)
    replace d0 := u.property.cell d0 (fun e => e)
    replace d12 := u.property.cell d12 (fun e => e)
    replace d13 := u.property.cell d13 (fun e => e)
    have K1 := (k0.trans k1).trans u.property
    generalize u.val = w2 at *
    clear hNE
    go_wp2_with fail
    have hNE := ks_ne c1
    have pc1 := ks_cell c1
    have pc2 := ks_cell c2
    have pc3 := ks_cell c3
    have pc4 := ks_cell c4
    have pc11 := ks_cell c11
    have pd0 := ks_cell d0
    have pd12 := ks_cell d12
    have pd13 := ks_cell d13
    cases x1
    · refine wp_region_ks (by kernel_rfl) (by kernel_rfl) ?_
      (repeat (go_big_quiet_step (fail)))
      refine wpQuiet_nil ?_
      rintro _ ⟨u, rfl⟩
      have K2 := K1.trans u.property
      generalize u.val = w3 at *
      go_wp2
      go_ret
      exact ⟨rfl, K2⟩
    cases x2
    · refine wp_region_ks (by kernel_rfl) (by kernel_rfl) ?_
      (repeat (go_big_quiet_step (fail)))
      refine wpQuiet_nil ?_
      rintro _ ⟨u, rfl⟩
      have K2 := K1.trans u.property
      generalize u.val = w3 at *
      go_wp2
      go_ret
      exact ⟨rfl, K2⟩
    cases x3
    · refine wp_region_ks (by kernel_rfl) (by kernel_rfl) ?_
      (repeat (go_big_quiet_step (fail)))
      refine wpQuiet_nil ?_
      rintro _ ⟨u, rfl⟩
      have K2 := K1.trans u.property
      generalize u.val = w3 at *
      go_wp2
      go_ret
      exact ⟨rfl, K2⟩
    refine wp_region_ks (by kernel_rfl) (by kernel_rfl) ?_
    (repeat (go_big_quiet_step (fail)))
    refine wpQuiet_nil ?_
    rintro _ ⟨u, rfl⟩
    have K2 := K1.trans u.property
    generalize u.val = w3 at *
    go_wp2
    go_ret
    exact ⟨rfl, K2⟩
  · have b1 : (r.kind == 1) = false := beq_eq_false_iff_ne.2 h1
    rw [b1]
    by_cases h2 : r.kind = 2
    · rw [h2] at c5
      clear h1 h2 hk b0 b1
      go_enter Try.func47, Try.ntmps47
      refine wp_seq_k (fun KK hKK => ?_)
      have hKH : Hid _ := hKK
      clear hKK
      go_wp2_with fail
      refine hKH.out _ _ ?_
      clear hKH KK
      rw [← e0]
      clear e0
      go_wp2_with (go_at_call 60; refine hst.mono ?_; clear hst; rintro e w1 ⟨rfl, k1⟩; replace c5 := k1.cell c5 (fun e => e))
      go_ret
      exact ⟨rfl, k0.trans k1⟩
    · have b2 : (r.kind == 2) = false := beq_eq_false_iff_ne.2 h2
      by_cases h17 : r.kind = 17
      · rw [h17] at c5
        clear h1 h2 hk b0 b1 b2 h17
        go_enter Try.func47, Try.ntmps47
        refine wp_seq_k (fun KK hKK => ?_)
        have hKH : Hid _ := hKK
        clear hKK
        go_wp2_with fail
        refine hKH.out _ _ ?_
        clear hKH KK
        rw [← e0]
        clear e0
        go_wp2_with (go_at_call 60; refine hst.mono ?_; clear hst; rintro e w1 ⟨rfl, k1⟩; replace c5 := k1.cell c5 (fun e => e))
        go_ret
        exact ⟨rfl, k0.trans k1⟩
      · have b17 : (r.kind == 17) = false := beq_eq_false_iff_ne.2 h17
        clear h1 h2 hk h17
        go_enter Try.func47, Try.ntmps47
        refine wp_seq_k (fun KK hKK => ?_)
        have hKH : Hid _ := hKK
        clear hKK
        go_wp2_with fail
        refine hKH.out _ _ ?_
        clear hKH KK
        rw [← e0]
        clear e0
        go_wp2_with (go_at_call 60; refine hst.mono ?_; clear hst; rintro e w1 ⟨rfl, k1⟩; replace c5 := k1.cell c5 (fun e => e))
        go_ret
        exact ⟨rfl, k0.trans k1⟩
end Go.Proofs.Ytmnmphkkcabkiaa

