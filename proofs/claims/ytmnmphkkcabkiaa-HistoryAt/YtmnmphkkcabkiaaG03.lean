import Derived.Test.YtmnmphkkcabkiaaG02
namespace Go.Proofs.Ytmnmphkkcabkiaa
open Go.RowKit
set_option maxHeartbeats 1000000 in
set_option maxRecDepth 100000 in
theorem fits_2 (w : World) {kb : Nat} {f : Nat → Int} (hK : IB w kb 32 f) (r : Rw) (th : Nat) (hk : r.kind = 2) (et : r.thread = (th : Int)) (ht : th < 6) (hB : ∀ i, i < 32 → f i + 1 ≤ 9223372036854775807 ∧ -9223372036854775808 ≤ f i) : Calls Try.prog 38 #[.pointer (some ⟨kb, 0, none⟩), .agg r.cells.toArray] w fun e w' => e = .returned (.bool (fitP f r th)) ∧ Keeps (fun _ => False) w w' := by
  obtain ⟨w0, e0, k0, hb, hz0⟩ := rw_box w r
  have hK0 := hK.keep (by decide) k0 (fun e => e)
  have hne : ¬ kb = w.heap.size := fun e => by have := hK.lt (by decide); omega
  obtain ⟨hcl, c0, c1, c2, c3, c4, c5, c6, c7, c8, c11, c13, c17, c21, c25⟩ := hb
  unfold fitP
  rw [hk, if_neg (by decide), if_neg (by omega), if_neg (by decide), if_pos rfl]
  rw [hk] at c5
  have hs := fun W => silent_any W r
  generalize sil r = sl at *
  have d0 := hK0.c (th * 5) (by omega)
  have d1 := hK0.c (th * 5 + 1) (by omega)
  have d2 := hK0.c (th * 5 + 2) (by omega)
  have d3 := hK0.c (th * 5 + 3) (by omega)
  have d4 := hK0.c (th * 5 + 4) (by omega)
  have d30 := hK0.c 30 (by decide)
  have d31 := hK0.c 31 (by decide)
  have hB3 := hB (th * 5 + 1) (by omega)
  have hB4 := hB (th * 5 + 2) (by omega)
  have hB5 := hB 31 (by decide)
  clear hB hK hK0
  generalize f (th * 5) = f0 at *
  generalize f (th * 5 + 1) = f1 at *
  generalize f (th * 5 + 2) = f2 at *
  generalize f (th * 5 + 3) = f3 at *
  generalize f (th * 5 + 4) = f4 at *
  generalize f 30 = f30 at *
  generalize f 31 = f31 at *
  rw [et] at c1
  have i1 : (0 : Int) ≤ (th : Int) := by omega
  have i2 : (th : Int) < 6 := by omega
  have i3 : decide ((th : Int) < 0) = false := decide_eq_false (by omega)
  have i4 : decide ((6 : Int) ≤ (th : Int)) = false := decide_eq_false (by omega)
  have i5 : decide (6 ≤ th) = false := decide_eq_false (by omega)
  have hne2 : ¬ w.heap.size = kb := fun e => hne e.symm
  generalize hz1 : (f0 == 2) = z1
  generalize hq3 : eq3 r.job r.try_ r.no f1 (f2 + 1) (f31 + 1) = q3
  obtain ⟨W1, hW1⟩ : ∃ W1, W1 = (w0.alloc (.cells #[.int .i64 f0, .int .i64 f1, .int .i64 f2, .int .i64 f3, .int .i64 f4] 109)).drew := ⟨_, rfl⟩
  have k1 : Keeps (fun _ => False) w0 W1 := by rw [hW1]; exact ((Keeps.refl _ w0).alloc _).drew
  have m1 : CL W1 (w.heap.size + 1) [.int .i64 f0, .int .i64 f1, .int .i64 f2, .int .i64 f3, .int .i64 f4] := by rw [hW1, ← hz0]; exact (CL.made w0 _ _).drew
  have hzW : W1.heap.size = w.heap.size + 2 := by rw [hW1]; show (w0.alloc _).heap.size = _; simp [hz0]
  have HW1 : Hid (W1 = (w0.alloc (.cells #[.int .i64 f0, .int .i64 f1, .int .i64 f2, .int .i64 f3, .int .i64 f4] 109)).drew) := hW1
  clear hW1
  go_enter Try.func38, Try.ntmps38
  refine wp_seq_k (fun KK hKK => ?_)
  have hKH : Hid _ := hKK
  clear hKK
  go_wp2_with fail
  refine hKH.out _ _ ?_
  clear hKH KK
  rw [← e0]
  clear e0
  go_wp2_with fail
  go_region_held3 (fun w' => w'.cell? ⟨w.heap.size, 1, none⟩ = some (.int .i64 (th : Int)) ∧ w'.cell? ⟨kb, th * 5, none⟩ = some (.int .i64 f0) ∧ w'.cell? ⟨kb, th * 5 + 1, none⟩ = some (.int .i64 f1) ∧ w'.cell? ⟨kb, th * 5 + 2, none⟩ = some (.int .i64 f2) ∧ w'.cell? ⟨kb, th * 5 + 3, none⟩ = some (.int .i64 f3) ∧ w'.cell? ⟨kb, th * 5 + 4, none⟩ = some (.int .i64 f4)) (go_keep) (fail)
  rw [← HW1.out]
  clear HW1
  rename_i hHeld
  clear hHeld
  have hcl := hcl.keep (by show 0 < 26; decide) k1 (fun e => e)
  have c1 := k1.cell c1 (fun e => e)
  have c5 := k1.cell c5 (fun e => e)
  have c11 := k1.cell c11 (fun e => e)
  have d30 := k1.cell d30 (fun e => e)
  have d31 := k1.cell d31 (fun e => e)
  have e0 := m1.c 0 _ rfl
  have e1 := m1.c 1 _ rfl
  have e2 := m1.c 2 _ rfl
  have e3 := m1.c 3 _ rfl
  have e4 := m1.c 4 _ rfl
  have K1 := k0.trans k1
  clear k0 k1
  obtain ⟨W2, hW2⟩ : ∃ W2, W2 = (W1.alloc (.cells #[.int .i64 f1, .int .i64 (f2 + 1), .int .i64 (f31 + 1)] 107)).drew := ⟨_, rfl⟩
  have k2 : Keeps (fun _ => False) W1 W2 := by rw [hW2]; exact ((Keeps.refl _ W1).alloc _).drew
  have m2 : CL W2 (w.heap.size + 2) [.int .i64 f1, .int .i64 (f2 + 1), .int .i64 (f31 + 1)] := by rw [hW2, ← hzW]; exact (CL.made W1 _ _).drew
  have HW2 : Hid (W2 = (W1.alloc (.cells #[.int .i64 f1, .int .i64 (f2 + 1), .int .i64 (f31 + 1)] 107)).drew) := hW2
  clear hW2
  have v1 : IntKind.i64.wrap (f2 + 1) = f2 + 1 := by rw [IntKind.wrap_i64]; omega
  have v31 : IntKind.i64.wrap (f31 + 1) = f31 + 1 := by rw [IntKind.wrap_i64]; omega
  go_wp2_with fail
  go_region_held3 (fun w' => w'.cell? ⟨w.heap.size + 1, 1, none⟩ = some (.int .i64 f1) ∧ w'.cell? ⟨w.heap.size + 1, 2, none⟩ = some (.int .i64 f2) ∧ w'.cell? ⟨kb, 31, none⟩ = some (.int .i64 f31)) (go_keep) (fail)
  try rw [v1]
  try rw [v31]
  rw [← HW2.out]
  clear HW2
  rename_i hHeld
  clear hHeld
  have hcl := hcl.keep (by show 0 < 26; decide) k2 (fun e => e)
  have e0 := ks_cell (k2.cell e0 (fun e => e))
  have g0 := ks_cell (m2.c 0 _ rfl)
  have g1 := ks_cell (m2.c 1 _ rfl)
  have g2 := ks_cell (m2.c 2 _ rfl)
  have KK := K1.trans k2
  clear k2 m2 K1
  have HR : Hid (∀ w', (∃ u : KS W2, w' = u.1) → (loadVar 50 ⟨w.heap.size, 0, none⟩).run Try.prog w' = .ok (.agg r.cells.toArray) w') := by
    rintro _ ⟨u, rfl⟩
    exact run_rw (hcl.keep (by show 0 < 26; decide) u.property (fun e => e))
  have hNE : Nonempty (KS W2) := ⟨⟨W2, Keeps.refl _ W2⟩⟩
  have HE : Hid (∀ w, (Op.equalIn 10000 107 (.agg #[.int .i64 r.job, .int .i64 r.try_, .int .i64 r.no]) (.agg #[.int .i64 f1, .int .i64 (f2 + 1), .int .i64 (f31 + 1)])).run Try.prog w = .ok q3 w) := fun w => by rw [← hq3]; exact eql_who w _ _ _ _ _ _
  clear hq3
  cases z1
  · go_wp2_with fail
    refine wp_region_ks (by kernel_rfl) (by kernel_rfl) ?_
    (repeat (first | go_big_quiet_skip | (refine wpQuiet_load (by kernel_rfl) 50 _ rfl ⟨w.heap.size, 0, none⟩ rfl _ HR.out ?_; (try simp only [Act.put, List.setIfInBounds_toArray, List.set_cons_zero, List.set_cons_succ])) | (refine wpQuiet_eql (by kernel_rfl) 107 _ _ _ rfl _ _ rfl rfl _ (by kernel_rfl) HE.out ?_; (try simp only [Act.put, List.setIfInBounds_toArray, List.set_cons_zero, List.set_cons_succ])) | (go_big_quiet_step ((go_at_call 53; refine (whoOf_any _ r).mono ?_; rintro e w9 ⟨rfl, k9⟩; exact ⟨rfl, ⟨_, (KS.property _).trans k9⟩, rfl⟩)))))
    refine wpQuiet_nil ?_
    rintro _ ⟨u, rfl⟩
    have ku := KK.trans u.property
    generalize u.val = wu at *
    go_wp2
    go_ret
    exact ⟨rfl, ku⟩
  cases q3
  · go_wp2_with fail
    refine wp_region_ks (by kernel_rfl) (by kernel_rfl) ?_
    (repeat (first | go_big_quiet_skip | (refine wpQuiet_load (by kernel_rfl) 50 _ rfl ⟨w.heap.size, 0, none⟩ rfl _ HR.out ?_; (try simp only [Act.put, List.setIfInBounds_toArray, List.set_cons_zero, List.set_cons_succ])) | (refine wpQuiet_eql (by kernel_rfl) 107 _ _ _ rfl _ _ rfl rfl _ (by kernel_rfl) HE.out ?_; (try simp only [Act.put, List.setIfInBounds_toArray, List.set_cons_zero, List.set_cons_succ])) | (go_big_quiet_step (first | (go_at_call 53; refine (whoOf_any _ r).mono ?_; rintro e w9 ⟨rfl, k9⟩; exact ⟨rfl, ⟨_, (KS.property _).trans k9⟩, rfl⟩) | (go_at_call 52; refine (hs _).mono ?_; rintro e w9 ⟨rfl, k9⟩; exact ⟨rfl, ⟨_, (KS.property _).trans k9⟩, rfl⟩)))))
    refine wpQuiet_nil ?_
    rintro _ ⟨u, rfl⟩
    have ku := KK.trans u.property
    generalize u.val = wu at *
    go_wp2
    go_ret
    exact ⟨rfl, ku⟩
  go_wp2_with fail
  refine wp_region_ks (by kernel_rfl) (by kernel_rfl) ?_
  (repeat (first | go_big_quiet_skip | (refine wpQuiet_load (by kernel_rfl) 50 _ rfl ⟨w.heap.size, 0, none⟩ rfl _ HR.out ?_; (try simp only [Act.put, List.setIfInBounds_toArray, List.set_cons_zero, List.set_cons_succ])) | (refine wpQuiet_eql (by kernel_rfl) 107 _ _ _ rfl _ _ rfl rfl _ (by kernel_rfl) HE.out ?_; (try simp only [Act.put, List.setIfInBounds_toArray, List.set_cons_zero, List.set_cons_succ])) | (go_big_quiet_step (first | (go_at_call 53; refine (whoOf_any _ r).mono ?_; rintro e w9 ⟨rfl, k9⟩; exact ⟨rfl, ⟨_, (KS.property _).trans k9⟩, rfl⟩) | (go_at_call 52; refine (hs _).mono ?_; rintro e w9 ⟨rfl, k9⟩; exact ⟨rfl, ⟨_, (KS.property _).trans k9⟩, rfl⟩)))))
  refine wpQuiet_nil ?_
  rintro _ ⟨u, rfl⟩
  have ku := KK.trans u.property
  generalize u.val = wu at *
  go_wp2
  go_ret
  exact ⟨rfl, ku⟩
end Go.Proofs.Ytmnmphkkcabkiaa

namespace Go.Proofs.Ytmnmphkkcabkiaa
open Go.RowKit
set_option maxHeartbeats 1000000 in
set_option maxRecDepth 100000 in
theorem fits_17 (w : World) {kb : Nat} {f : Nat → Int} (hK : IB w kb 32 f) (r : Rw) (th : Nat) (hk : r.kind = 17) (et : r.thread = (th : Int)) (ht : th < 6) (hB : ∀ i, i < 32 → f i + 1 ≤ 9223372036854775807 ∧ -9223372036854775808 ≤ f i) : Calls Try.prog 38 #[.pointer (some ⟨kb, 0, none⟩), .agg r.cells.toArray] w fun e w' => e = .returned (.bool (fitP f r th)) ∧ Keeps (fun _ => False) w w' := by
  obtain ⟨w0, e0, k0, hb, hz0⟩ := rw_box w r
  have hK0 := hK.keep (by decide) k0 (fun e => e)
  have hne : ¬ kb = w.heap.size := fun e => by have := hK.lt (by decide); omega
  obtain ⟨hcl, c0, c1, c2, c3, c4, c5, c6, c7, c8, c11, c13, c17, c21, c25⟩ := hb
  unfold fitP
  rw [hk, if_neg (by decide), if_neg (by omega), if_neg (by decide), if_neg (by decide), if_pos rfl]
  rw [hk] at c5
  have hs := fun W => silent_any W r
  generalize sil r = sl at *
  have d0 := hK0.c (th * 5) (by omega)
  have d1 := hK0.c (th * 5 + 1) (by omega)
  have d2 := hK0.c (th * 5 + 2) (by omega)
  have d3 := hK0.c (th * 5 + 3) (by omega)
  have d4 := hK0.c (th * 5 + 4) (by omega)
  have d30 := hK0.c 30 (by decide)
  have d31 := hK0.c 31 (by decide)
  have hB3 := hB (th * 5 + 1) (by omega)
  have hB4 := hB (th * 5 + 2) (by omega)
  have hB5 := hB 31 (by decide)
  clear hB hK hK0
  generalize f (th * 5) = f0 at *
  generalize f (th * 5 + 1) = f1 at *
  generalize f (th * 5 + 2) = f2 at *
  generalize f (th * 5 + 3) = f3 at *
  generalize f (th * 5 + 4) = f4 at *
  generalize f 30 = f30 at *
  generalize f 31 = f31 at *
  rw [et] at c1
  have i1 : (0 : Int) ≤ (th : Int) := by omega
  have i2 : (th : Int) < 6 := by omega
  have i3 : decide ((th : Int) < 0) = false := decide_eq_false (by omega)
  have i4 : decide ((6 : Int) ≤ (th : Int)) = false := decide_eq_false (by omega)
  have i5 : decide (6 ≤ th) = false := decide_eq_false (by omega)
  have hne2 : ¬ w.heap.size = kb := fun e => hne e.symm
  generalize hz1 : (f0 == 3) = z1
  generalize hq3 : eq3 r.job r.try_ r.no f1 f2 f3 = q3
  obtain ⟨W1, hW1⟩ : ∃ W1, W1 = (w0.alloc (.cells #[.int .i64 f0, .int .i64 f1, .int .i64 f2, .int .i64 f3, .int .i64 f4] 109)).drew := ⟨_, rfl⟩
  have k1 : Keeps (fun _ => False) w0 W1 := by rw [hW1]; exact ((Keeps.refl _ w0).alloc _).drew
  have m1 : CL W1 (w.heap.size + 1) [.int .i64 f0, .int .i64 f1, .int .i64 f2, .int .i64 f3, .int .i64 f4] := by rw [hW1, ← hz0]; exact (CL.made w0 _ _).drew
  have hzW : W1.heap.size = w.heap.size + 2 := by rw [hW1]; show (w0.alloc _).heap.size = _; simp [hz0]
  have HW1 : Hid (W1 = (w0.alloc (.cells #[.int .i64 f0, .int .i64 f1, .int .i64 f2, .int .i64 f3, .int .i64 f4] 109)).drew) := hW1
  clear hW1
  go_enter Try.func38, Try.ntmps38
  refine wp_seq_k (fun KK hKK => ?_)
  have hKH : Hid _ := hKK
  clear hKK
  go_wp2_with fail
  refine hKH.out _ _ ?_
  clear hKH KK
  rw [← e0]
  clear e0
  go_wp2_with fail
  go_region_held3 (fun w' => w'.cell? ⟨w.heap.size, 1, none⟩ = some (.int .i64 (th : Int)) ∧ w'.cell? ⟨kb, th * 5, none⟩ = some (.int .i64 f0) ∧ w'.cell? ⟨kb, th * 5 + 1, none⟩ = some (.int .i64 f1) ∧ w'.cell? ⟨kb, th * 5 + 2, none⟩ = some (.int .i64 f2) ∧ w'.cell? ⟨kb, th * 5 + 3, none⟩ = some (.int .i64 f3) ∧ w'.cell? ⟨kb, th * 5 + 4, none⟩ = some (.int .i64 f4)) (go_keep) (fail)
  rw [← HW1.out]
  clear HW1
  rename_i hHeld
  clear hHeld
  have hcl := hcl.keep (by show 0 < 26; decide) k1 (fun e => e)
  have c1 := k1.cell c1 (fun e => e)
  have c5 := k1.cell c5 (fun e => e)
  have c11 := k1.cell c11 (fun e => e)
  have d30 := k1.cell d30 (fun e => e)
  have d31 := k1.cell d31 (fun e => e)
  have e0 := m1.c 0 _ rfl
  have e1 := m1.c 1 _ rfl
  have e2 := m1.c 2 _ rfl
  have e3 := m1.c 3 _ rfl
  have e4 := m1.c 4 _ rfl
  have K1 := k0.trans k1
  clear k0 k1
  go_wp2_with fail
  have hNE0 : Nonempty (KS W1) := ⟨⟨W1, Keeps.refl _ W1⟩⟩
  have c5 := ks_cell c5
  have e0 := ks_cell e0
  have e1 := ks_cell e1
  have e2 := ks_cell e2
  have e3 := ks_cell e3
  have e4 := ks_cell e4
  have KK := K1
  clear K1
  have HE : Hid (∀ w, (Op.equalIn 10000 107 (.agg #[.int .i64 r.job, .int .i64 r.try_, .int .i64 r.no]) (.agg #[.int .i64 f1, .int .i64 f2, .int .i64 f3])).run Try.prog w = .ok q3 w) := fun w => by rw [← hq3]; exact eql_who w _ _ _ _ _ _
  clear hq3
  have HR : Hid (∀ w', (∃ u : KS W1, w' = u.1) → (loadVar 50 ⟨w.heap.size, 0, none⟩).run Try.prog w' = .ok (.agg r.cells.toArray) w') := by
    rintro _ ⟨u, rfl⟩
    exact run_rw (hcl.keep (by show 0 < 26; decide) u.property (fun e => e))
  have hNE : Nonempty (KS W1) := ⟨⟨W1, Keeps.refl _ W1⟩⟩
  cases z1
  · go_wp2_with fail
    refine wp_region_ks (by kernel_rfl) (by kernel_rfl) ?_
    (repeat (first | go_big_quiet_skip | (refine wpQuiet_load (by kernel_rfl) 50 _ rfl ⟨w.heap.size, 0, none⟩ rfl _ HR.out ?_; (try simp only [Act.put, List.setIfInBounds_toArray, List.set_cons_zero, List.set_cons_succ])) | (refine wpQuiet_eql (by kernel_rfl) 107 _ _ _ rfl _ _ rfl rfl _ (by kernel_rfl) HE.out ?_; (try simp only [Act.put, List.setIfInBounds_toArray, List.set_cons_zero, List.set_cons_succ])) | (go_big_quiet_step ((go_at_call 53; refine (whoOf_any _ r).mono ?_; rintro e w9 ⟨rfl, k9⟩; exact ⟨rfl, ⟨_, (KS.property _).trans k9⟩, rfl⟩)))))
    refine wpQuiet_nil ?_
    rintro _ ⟨u, rfl⟩
    have ku := KK.trans u.property
    generalize u.val = wu at *
    go_wp2
    go_ret
    exact ⟨rfl, ku⟩
  cases q3
  · go_wp2_with fail
    refine wp_region_ks (by kernel_rfl) (by kernel_rfl) ?_
    (repeat (first | go_big_quiet_skip | (refine wpQuiet_load (by kernel_rfl) 50 _ rfl ⟨w.heap.size, 0, none⟩ rfl _ HR.out ?_; (try simp only [Act.put, List.setIfInBounds_toArray, List.set_cons_zero, List.set_cons_succ])) | (refine wpQuiet_eql (by kernel_rfl) 107 _ _ _ rfl _ _ rfl rfl _ (by kernel_rfl) HE.out ?_; (try simp only [Act.put, List.setIfInBounds_toArray, List.set_cons_zero, List.set_cons_succ])) | (go_big_quiet_step (first | (go_at_call 53; refine (whoOf_any _ r).mono ?_; rintro e w9 ⟨rfl, k9⟩; exact ⟨rfl, ⟨_, (KS.property _).trans k9⟩, rfl⟩) | (go_at_call 52; refine (hs _).mono ?_; rintro e w9 ⟨rfl, k9⟩; exact ⟨rfl, ⟨_, (KS.property _).trans k9⟩, rfl⟩)))))
    refine wpQuiet_nil ?_
    rintro _ ⟨u, rfl⟩
    have ku := KK.trans u.property
    generalize u.val = wu at *
    go_wp2
    go_ret
    exact ⟨rfl, ku⟩
  go_wp2_with fail
  refine wp_region_ks (by kernel_rfl) (by kernel_rfl) ?_
  (repeat (first | go_big_quiet_skip | (refine wpQuiet_load (by kernel_rfl) 50 _ rfl ⟨w.heap.size, 0, none⟩ rfl _ HR.out ?_; (try simp only [Act.put, List.setIfInBounds_toArray, List.set_cons_zero, List.set_cons_succ])) | (refine wpQuiet_eql (by kernel_rfl) 107 _ _ _ rfl _ _ rfl rfl _ (by kernel_rfl) HE.out ?_; (try simp only [Act.put, List.setIfInBounds_toArray, List.set_cons_zero, List.set_cons_succ])) | (go_big_quiet_step (first | (go_at_call 53; refine (whoOf_any _ r).mono ?_; rintro e w9 ⟨rfl, k9⟩; exact ⟨rfl, ⟨_, (KS.property _).trans k9⟩, rfl⟩) | (go_at_call 52; refine (hs _).mono ?_; rintro e w9 ⟨rfl, k9⟩; exact ⟨rfl, ⟨_, (KS.property _).trans k9⟩, rfl⟩)))))
  refine wpQuiet_nil ?_
  rintro _ ⟨u, rfl⟩
  have ku := KK.trans u.property
  generalize u.val = wu at *
  go_wp2
  go_ret
  exact ⟨rfl, ku⟩
end Go.Proofs.Ytmnmphkkcabkiaa

namespace Go.Proofs.Ytmnmphkkcabkiaa
open Go.RowKit
set_option maxHeartbeats 1000000 in
set_option maxRecDepth 100000 in
theorem fits_x (w : World) {kb : Nat} {f : Nat → Int} (hK : IB w kb 32 f) (r : Rw) (th : Nat) (hk : r.kind ≠ 0 ∧ r.kind ≠ 1 ∧ r.kind ≠ 2 ∧ r.kind ≠ 17) (et : r.thread = (th : Int)) (ht : th < 6) (hB : ∀ i, i < 32 → f i + 1 ≤ 9223372036854775807 ∧ -9223372036854775808 ≤ f i) : Calls Try.prog 38 #[.pointer (some ⟨kb, 0, none⟩), .agg r.cells.toArray] w fun e w' => e = .returned (.bool (fitP f r th)) ∧ Keeps (fun _ => False) w w' := by
  obtain ⟨w0, e0, k0, hb, hz0⟩ := rw_box w r
  have hK0 := hK.keep (by decide) k0 (fun e => e)
  have hne : ¬ kb = w.heap.size := fun e => by have := hK.lt (by decide); omega
  obtain ⟨hcl, c0, c1, c2, c3, c4, c5, c6, c7, c8, c11, c13, c17, c21, c25⟩ := hb
  unfold fitP
  rw [if_neg hk.1, if_neg (by omega), if_neg hk.2.1, if_neg hk.2.2.1, if_neg hk.2.2.2]
  have b0 : (r.kind == 0) = false := beq_eq_false_iff_ne.2 hk.1
  have b1 : (r.kind == 1) = false := beq_eq_false_iff_ne.2 hk.2.1
  have b2 : (r.kind == 2) = false := beq_eq_false_iff_ne.2 hk.2.2.1
  have b17 : (r.kind == 17) = false := beq_eq_false_iff_ne.2 hk.2.2.2
  have ho := fun W => ofAttempt_any W r.kind
  have he := fun W => endFits_any W r
  have hr := fun W => readFits_any W (f (th * 5)) (f (th * 5 + 1)) (f (th * 5 + 2)) (f (th * 5 + 3)) (f (th * 5 + 4)) r
  generalize endP r = ep at *
  generalize readP r (f (th * 5 + 4)) = rp at *
  generalize ofA r.kind = oa at *
  generalize r.kind = kd at *
  clear hk
  have d0 := hK0.c (th * 5) (by omega)
  have d1 := hK0.c (th * 5 + 1) (by omega)
  have d2 := hK0.c (th * 5 + 2) (by omega)
  have d3 := hK0.c (th * 5 + 3) (by omega)
  have d4 := hK0.c (th * 5 + 4) (by omega)
  have d30 := hK0.c 30 (by decide)
  have d31 := hK0.c 31 (by decide)
  have hB3 := hB (th * 5 + 1) (by omega)
  have hB4 := hB (th * 5 + 2) (by omega)
  have hB5 := hB 31 (by decide)
  clear hB hK hK0
  generalize f (th * 5) = f0 at *
  generalize f (th * 5 + 1) = f1 at *
  generalize f (th * 5 + 2) = f2 at *
  generalize f (th * 5 + 3) = f3 at *
  generalize f (th * 5 + 4) = f4 at *
  generalize f 30 = f30 at *
  generalize f 31 = f31 at *
  rw [et] at c1
  have i1 : (0 : Int) ≤ (th : Int) := by omega
  have i2 : (th : Int) < 6 := by omega
  have i3 : decide ((th : Int) < 0) = false := decide_eq_false (by omega)
  have i4 : decide ((6 : Int) ≤ (th : Int)) = false := decide_eq_false (by omega)
  have i5 : decide (6 ≤ th) = false := decide_eq_false (by omega)
  have hne2 : ¬ w.heap.size = kb := fun e => hne e.symm
  generalize hz1 : (f0 == 1) = z1
  generalize hq3 : eq3 r.job r.try_ r.no f1 f2 f3 = q3
  obtain ⟨W1, hW1⟩ : ∃ W1, W1 = (w0.alloc (.cells #[.int .i64 f0, .int .i64 f1, .int .i64 f2, .int .i64 f3, .int .i64 f4] 109)).drew := ⟨_, rfl⟩
  have k1 : Keeps (fun _ => False) w0 W1 := by rw [hW1]; exact ((Keeps.refl _ w0).alloc _).drew
  have m1 : CL W1 (w.heap.size + 1) [.int .i64 f0, .int .i64 f1, .int .i64 f2, .int .i64 f3, .int .i64 f4] := by rw [hW1, ← hz0]; exact (CL.made w0 _ _).drew
  have hzW : W1.heap.size = w.heap.size + 2 := by rw [hW1]; show (w0.alloc _).heap.size = _; simp [hz0]
  have HW1 : Hid (W1 = (w0.alloc (.cells #[.int .i64 f0, .int .i64 f1, .int .i64 f2, .int .i64 f3, .int .i64 f4] 109)).drew) := hW1
  clear hW1
  go_enter Try.func38, Try.ntmps38
  refine wp_seq_k (fun KK hKK => ?_)
  have hKH : Hid _ := hKK
  clear hKK
  go_wp2_with fail
  refine hKH.out _ _ ?_
  clear hKH KK
  rw [← e0]
  clear e0
  go_wp2_with fail
  go_region_held3 (fun w' => w'.cell? ⟨w.heap.size, 1, none⟩ = some (.int .i64 (th : Int)) ∧ w'.cell? ⟨kb, th * 5, none⟩ = some (.int .i64 f0) ∧ w'.cell? ⟨kb, th * 5 + 1, none⟩ = some (.int .i64 f1) ∧ w'.cell? ⟨kb, th * 5 + 2, none⟩ = some (.int .i64 f2) ∧ w'.cell? ⟨kb, th * 5 + 3, none⟩ = some (.int .i64 f3) ∧ w'.cell? ⟨kb, th * 5 + 4, none⟩ = some (.int .i64 f4)) (go_keep) (fail)
  rw [← HW1.out]
  clear HW1
  rename_i hHeld
  clear hHeld
  have hcl := hcl.keep (by show 0 < 26; decide) k1 (fun e => e)
  have c1 := k1.cell c1 (fun e => e)
  have c5 := k1.cell c5 (fun e => e)
  have c11 := k1.cell c11 (fun e => e)
  have d30 := k1.cell d30 (fun e => e)
  have d31 := k1.cell d31 (fun e => e)
  have e0 := m1.c 0 _ rfl
  have e1 := m1.c 1 _ rfl
  have e2 := m1.c 2 _ rfl
  have e3 := m1.c 3 _ rfl
  have e4 := m1.c 4 _ rfl
  have K1 := k0.trans k1
  clear k0 k1
  go_wp2_with fail
  have hNE0 : Nonempty (KS W1) := ⟨⟨W1, Keeps.refl _ W1⟩⟩
  have c5 := ks_cell c5
  have e0 := ks_cell e0
  have e1 := ks_cell e1
  have e2 := ks_cell e2
  have e3 := ks_cell e3
  have e4 := ks_cell e4
  have KK := K1
  clear K1
  have HE : Hid (∀ w, (Op.equalIn 10000 107 (.agg #[.int .i64 r.job, .int .i64 r.try_, .int .i64 r.no]) (.agg #[.int .i64 f1, .int .i64 f2, .int .i64 f3])).run Try.prog w = .ok q3 w) := fun w => by rw [← hq3]; exact eql_who w _ _ _ _ _ _
  clear hq3
  have HR : Hid (∀ w', (∃ u : KS W1, w' = u.1) → (loadVar 50 ⟨w.heap.size, 0, none⟩).run Try.prog w' = .ok (.agg r.cells.toArray) w') := by
    rintro _ ⟨u, rfl⟩
    exact run_rw (hcl.keep (by show 0 < 26; decide) u.property (fun e => e))
  have hNE : Nonempty (KS W1) := ⟨⟨W1, Keeps.refl _ W1⟩⟩
  cases oa
  · go_wp2_with fail
    refine wp_region_ks (by kernel_rfl) (by kernel_rfl) ?_
    (repeat (first | go_big_quiet_skip | (refine wpQuiet_load (by kernel_rfl) 50 _ rfl ⟨w.heap.size, 0, none⟩ rfl _ HR.out ?_; (try simp only [Act.put, List.setIfInBounds_toArray, List.set_cons_zero, List.set_cons_succ])) | (refine wpQuiet_eql (by kernel_rfl) 107 _ _ _ rfl _ _ rfl rfl _ (by kernel_rfl) HE.out ?_; (try simp only [Act.put, List.setIfInBounds_toArray, List.set_cons_zero, List.set_cons_succ])) | (go_big_quiet_step ((go_at_call 41; refine (ho _).mono ?_; rintro e w9 ⟨rfl, rfl⟩; exact ⟨rfl, _, rfl⟩)))))
    refine wpQuiet_nil ?_
    rintro _ ⟨u, rfl⟩
    have ku := KK.trans u.property
    generalize u.val = wu at *
    go_wp2
    go_ret
    exact ⟨rfl, ku⟩
  cases z1
  · go_wp2_with fail
    refine wp_region_ks (by kernel_rfl) (by kernel_rfl) ?_
    (repeat (first | go_big_quiet_skip | (refine wpQuiet_load (by kernel_rfl) 50 _ rfl ⟨w.heap.size, 0, none⟩ rfl _ HR.out ?_; (try simp only [Act.put, List.setIfInBounds_toArray, List.set_cons_zero, List.set_cons_succ])) | (refine wpQuiet_eql (by kernel_rfl) 107 _ _ _ rfl _ _ rfl rfl _ (by kernel_rfl) HE.out ?_; (try simp only [Act.put, List.setIfInBounds_toArray, List.set_cons_zero, List.set_cons_succ])) | (go_big_quiet_step (first | (go_at_call 41; refine (ho _).mono ?_; rintro e w9 ⟨rfl, rfl⟩; exact ⟨rfl, _, rfl⟩) | (go_at_call 53; refine (whoOf_any _ r).mono ?_; rintro e w9 ⟨rfl, k9⟩; exact ⟨rfl, ⟨_, (KS.property _).trans k9⟩, rfl⟩)))))
    refine wpQuiet_nil ?_
    rintro _ ⟨u, rfl⟩
    have ku := KK.trans u.property
    generalize u.val = wu at *
    go_wp2
    go_ret
    exact ⟨rfl, ku⟩
  cases q3
  · go_wp2_with fail
    refine wp_region_ks (by kernel_rfl) (by kernel_rfl) ?_
    (repeat (first | go_big_quiet_skip | (refine wpQuiet_load (by kernel_rfl) 50 _ rfl ⟨w.heap.size, 0, none⟩ rfl _ HR.out ?_; (try simp only [Act.put, List.setIfInBounds_toArray, List.set_cons_zero, List.set_cons_succ])) | (refine wpQuiet_eql (by kernel_rfl) 107 _ _ _ rfl _ _ rfl rfl _ (by kernel_rfl) HE.out ?_; (try simp only [Act.put, List.setIfInBounds_toArray, List.set_cons_zero, List.set_cons_succ])) | (go_big_quiet_step (first | (go_at_call 41; refine (ho _).mono ?_; rintro e w9 ⟨rfl, rfl⟩; exact ⟨rfl, _, rfl⟩) | (go_at_call 53; refine (whoOf_any _ r).mono ?_; rintro e w9 ⟨rfl, k9⟩; exact ⟨rfl, ⟨_, (KS.property _).trans k9⟩, rfl⟩)))))
    refine wpQuiet_nil ?_
    rintro _ ⟨u, rfl⟩
    have ku := KK.trans u.property
    generalize u.val = wu at *
    go_wp2
    go_ret
    exact ⟨rfl, ku⟩
  cases ep
  · go_wp2_with fail
    refine wp_region_ks (by kernel_rfl) (by kernel_rfl) ?_
    (repeat (first | go_big_quiet_skip | (refine wpQuiet_load (by kernel_rfl) 50 _ rfl ⟨w.heap.size, 0, none⟩ rfl _ HR.out ?_; (try simp only [Act.put, List.setIfInBounds_toArray, List.set_cons_zero, List.set_cons_succ])) | (refine wpQuiet_eql (by kernel_rfl) 107 _ _ _ rfl _ _ rfl rfl _ (by kernel_rfl) HE.out ?_; (try simp only [Act.put, List.setIfInBounds_toArray, List.set_cons_zero, List.set_cons_succ])) | (go_big_quiet_step (first | (go_at_call 41; refine (ho _).mono ?_; rintro e w9 ⟨rfl, rfl⟩; exact ⟨rfl, _, rfl⟩) | (go_at_call 53; refine (whoOf_any _ r).mono ?_; rintro e w9 ⟨rfl, k9⟩; exact ⟨rfl, ⟨_, (KS.property _).trans k9⟩, rfl⟩) | (go_at_call 54; refine (he _).mono ?_; rintro e w9 ⟨rfl, k9⟩; exact ⟨rfl, ⟨_, (KS.property _).trans k9⟩, rfl⟩)))))
    refine wpQuiet_nil ?_
    rintro _ ⟨u, rfl⟩
    have ku := KK.trans u.property
    generalize u.val = wu at *
    go_wp2
    go_ret
    exact ⟨rfl, ku⟩
  go_wp2_with fail
  refine wp_region_ks (by kernel_rfl) (by kernel_rfl) ?_
  (repeat (first | go_big_quiet_skip | (refine wpQuiet_load (by kernel_rfl) 50 _ rfl ⟨w.heap.size, 0, none⟩ rfl _ HR.out ?_; (try simp only [Act.put, List.setIfInBounds_toArray, List.set_cons_zero, List.set_cons_succ])) | (refine wpQuiet_eql (by kernel_rfl) 107 _ _ _ rfl _ _ rfl rfl _ (by kernel_rfl) HE.out ?_; (try simp only [Act.put, List.setIfInBounds_toArray, List.set_cons_zero, List.set_cons_succ])) | (go_big_quiet_step (first | (go_at_call 41; refine (ho _).mono ?_; rintro e w9 ⟨rfl, rfl⟩; exact ⟨rfl, _, rfl⟩) | (go_at_call 53; refine (whoOf_any _ r).mono ?_; rintro e w9 ⟨rfl, k9⟩; exact ⟨rfl, ⟨_, (KS.property _).trans k9⟩, rfl⟩) | (go_at_call 54; refine (he _).mono ?_; rintro e w9 ⟨rfl, k9⟩; exact ⟨rfl, ⟨_, (KS.property _).trans k9⟩, rfl⟩) | (go_at_call 55; refine (hr _).mono ?_; rintro e w9 ⟨rfl, k9⟩; exact ⟨rfl, ⟨_, (KS.property _).trans k9⟩, rfl⟩)))))
  refine wpQuiet_nil ?_
  rintro _ ⟨u, rfl⟩
  have ku := KK.trans u.property
  generalize u.val = wu at *
  go_wp2
  go_ret
  exact ⟨rfl, ku⟩
end Go.Proofs.Ytmnmphkkcabkiaa

