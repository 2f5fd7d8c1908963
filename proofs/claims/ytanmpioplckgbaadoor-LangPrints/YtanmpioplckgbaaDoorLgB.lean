import Derived.Test.YtanmpioplckgbaaDoorLgA
namespace Go.Proofs.YtanmpioplckgbaaDoor
open Go.RowKit
theorem can_out {q : Ins} {n : Int} (h : q.code < 1 ∨ 10 < q.code) : q.can n = false := by
  unfold Ins.can
  rcases h with h | h
  · have : decide (1 ≤ q.code) = false := by simp; omega
    rw [this]; rfl
  · have : decide (q.code ≤ 10) = false := by simp; omega
    rw [this, Bool.and_false]; rfl
theorem can_in {q : Ins} {n : Int} (h : 1 ≤ q.code ∧ q.code ≤ 10) : q.can n = ((btw q.dst 0 15 (kdD q.code) && btw q.rel 1 6 (kdR q.code) && btw q.to 0 n (kdL q.code) && btw q.op 1 12 (q.code == 6)) && (fts q.oR q.oN (kdO q.code) && fts q.xR q.xN (kdX q.code) && fts q.yR q.yN (kdY q.code))) := by
  unfold Ins.can
  have h1 : decide (1 ≤ q.code) = true := by simp; omega
  have h2 : decide (q.code ≤ 10) = true := by simp; omega
  rw [h1, h2]; rfl
set_option maxHeartbeats 1000000 in
set_option maxRecDepth 100000 in
theorem rcan_any (w : World) (q : Ins) (n : Int) : Calls Tryd.prog 29 #[.agg q.cells.toArray, .int .i64 n] w fun e w' => e = .returned (.bool (q.can n)) ∧ Keeps (fun _ => False) w w' := by
  obtain ⟨cd, dst, oR, oN, xR, xN, yR, yN, op, rel, to⟩ := q
  show Calls Tryd.prog 29 #[.agg #[.int .i64 cd, .int .i64 dst, .bool oR, .int .i64 oN, .bool xR, .int .i64 xN, .bool yR, .int .i64 yN, .int .i64 op, .int .i64 rel, .int .i64 to], .int .i64 n] w _
  obtain ⟨w0, hw0⟩ : ∃ w0, w0 = w.alloc (.cells #[.int .i64 cd, .int .i64 dst, .bool oR, .int .i64 oN, .bool xR, .int .i64 xN, .bool yR, .int .i64 yN, .int .i64 op, .int .i64 rel, .int .i64 to] 42) := ⟨_, rfl⟩
  have k0 : Keeps (fun _ => False) w w0 := by rw [hw0]; exact (Keeps.refl _ w).alloc _
  have c0 : w0.cell? ⟨w.heap.size, 0, none⟩ = some (.int .i64 cd) := by rw [hw0]; simp
  have c1 : w0.cell? ⟨w.heap.size, 1, none⟩ = some (.int .i64 dst) := by rw [hw0]; simp
  have c2 : w0.cell? ⟨w.heap.size, 2, none⟩ = some (.bool oR) := by rw [hw0]; simp
  have c3 : w0.cell? ⟨w.heap.size, 3, none⟩ = some (.int .i64 oN) := by rw [hw0]; simp
  have c4 : w0.cell? ⟨w.heap.size, 4, none⟩ = some (.bool xR) := by rw [hw0]; simp
  have c5 : w0.cell? ⟨w.heap.size, 5, none⟩ = some (.int .i64 xN) := by rw [hw0]; simp
  have c6 : w0.cell? ⟨w.heap.size, 6, none⟩ = some (.bool yR) := by rw [hw0]; simp
  have c7 : w0.cell? ⟨w.heap.size, 7, none⟩ = some (.int .i64 yN) := by rw [hw0]; simp
  have c8 : w0.cell? ⟨w.heap.size, 8, none⟩ = some (.int .i64 op) := by rw [hw0]; simp
  have c9 : w0.cell? ⟨w.heap.size, 9, none⟩ = some (.int .i64 rel) := by rw [hw0]; simp
  have c10 : w0.cell? ⟨w.heap.size, 10, none⟩ = some (.int .i64 to) := by rw [hw0]; simp
  by_cases hr : 1 ≤ cd ∧ cd ≤ 10
  · have b1 : decide (cd < 1) = false := by simp; omega
    have b2 : decide (10 < cd) = false := by simp; omega
    obtain ⟨k1, k2, k3, k4, k5, k6⟩ := kd_all cd hr
    have hk := kindsOf_any w0 cd hr
    have hsz := kd_size cd
    rw [can_in (q := ⟨cd, dst, oR, oN, xR, xN, yR, yN, op, rel, to⟩) hr]
    simp only
    have h1 : ∀ w, Calls Tryd.prog 46 #[.string (kdS cd), .int .u8 100] w fun e w' => e = .returned (.bool (hasB (kdS cd) 100)) ∧ w' = w := fun w => has_any w (kdS cd) 100 hsz
    have h2 : ∀ w, Calls Tryd.prog 46 #[.string (kdS cd), .int .u8 111] w fun e w' => e = .returned (.bool (hasB (kdS cd) 111)) ∧ w' = w := fun w => has_any w (kdS cd) 111 hsz
    have h3 : ∀ w, Calls Tryd.prog 46 #[.string (kdS cd), .int .u8 120] w fun e w' => e = .returned (.bool (hasB (kdS cd) 120)) ∧ w' = w := fun w => has_any w (kdS cd) 120 hsz
    have h4 : ∀ w, Calls Tryd.prog 46 #[.string (kdS cd), .int .u8 121] w fun e w' => e = .returned (.bool (hasB (kdS cd) 121)) ∧ w' = w := fun w => has_any w (kdS cd) 121 hsz
    have h5 : ∀ w, Calls Tryd.prog 46 #[.string (kdS cd), .int .u8 114] w fun e w' => e = .returned (.bool (hasB (kdS cd) 114)) ∧ w' = w := fun w => has_any w (kdS cd) 114 hsz
    have h6 : ∀ w, Calls Tryd.prog 46 #[.string (kdS cd), .int .u8 108] w fun e w' => e = .returned (.bool (hasB (kdS cd) 108)) ∧ w' = w := fun w => has_any w (kdS cd) 108 hsz
    rw [k1] at h1
    rw [k2] at h2
    rw [k3] at h3
    rw [k4] at h4
    rw [k5] at h5
    rw [k6] at h6
    have g1 := fun w => between_any w dst 0 15 (kdD cd)
    have g2 := fun w => between_any w rel 1 6 (kdR cd)
    have g3 := fun w => between_any w to 0 n (kdL cd)
    have g4 := fun w => between_any w op 1 12 (cd == 6)
    have g5 := fun w => fits_any w oR oN (kdO cd)
    have g6 := fun w => fits_any w xR xN (kdX cd)
    have g7 := fun w => fits_any w yR yN (kdY cd)
    generalize btw dst 0 15 (kdD cd) = y1 at *
    generalize btw rel 1 6 (kdR cd) = y2 at *
    generalize btw to 0 n (kdL cd) = y3 at *
    generalize btw op 1 12 (cd == 6) = y4 at *
    generalize fts oR oN (kdO cd) = y5 at *
    generalize fts xR xN (kdX cd) = y6 at *
    generalize fts yR yN (kdY cd) = y7 at *
    generalize kdD cd = z1 at *
    generalize kdO cd = z2 at *
    generalize kdX cd = z3 at *
    generalize kdY cd = z4 at *
    generalize kdR cd = z5 at *
    generalize kdL cd = z6 at *
    generalize kdS cd = ks at *
    clear k1 k2 k3 k4 k5 k6 hsz hr
    go_enter Tryd.func29, Tryd.ntmps29
    go_wp2_with fail
    rw [← hw0]
    clear hw0
    go_wp2_with (go_at_call 33; refine hk.mono ?_; rintro e wk ⟨rfl, rfl⟩)
    have hNE : Nonempty (KS wk) := ⟨⟨wk, Keeps.refl _ wk⟩⟩
    have d0 := ks_cell c0
    have d1 := ks_cell c1
    have d2 := ks_cell c2
    have d3 := ks_cell c3
    have d4 := ks_cell c4
    have d5 := ks_cell c5
    have d6 := ks_cell c6
    have d7 := ks_cell c7
    have d8 := ks_cell c8
    have d9 := ks_cell c9
    have d10 := ks_cell c10
    cases y1 with
    | false =>
      refine wp_region_ks (by kernel_rfl) (by kernel_rfl) ?_
      repeat (go_big_quiet_step (first | (go_at_call 46; (first | (with_reducible refine (h1 _).mono ?_) | (with_reducible refine (h2 _).mono ?_) | (with_reducible refine (h3 _).mono ?_) | (with_reducible refine (h4 _).mono ?_) | (with_reducible refine (h5 _).mono ?_) | (with_reducible refine (h6 _).mono ?_)); rintro e w9 ⟨rfl, rfl⟩; exact ⟨rfl, _, rfl⟩) | (go_at_call 45; (first | (with_reducible refine (g1 _).mono ?_) | (with_reducible refine (g2 _).mono ?_) | (with_reducible refine (g3 _).mono ?_) | (with_reducible refine (g4 _).mono ?_)); rintro e w9 ⟨rfl, rfl⟩; exact ⟨rfl, _, rfl⟩) | (go_at_call 47; (first | (with_reducible refine (g5 _).mono ?_) | (with_reducible refine (g6 _).mono ?_) | (with_reducible refine (g7 _).mono ?_)); rintro e w9 ⟨rfl, k9⟩; exact ⟨rfl, ⟨_, (KS.property _).trans k9⟩, rfl⟩)))
      refine wpQuiet_nil ?_
      rintro _ ⟨u, rfl⟩
      have ku := k0.trans u.property
      generalize u.val = wu at *
      go_wp2
      go_ret
      exact ⟨rfl, ku⟩
    | true =>
      cases y2 with
      | false =>
        refine wp_region_ks (by kernel_rfl) (by kernel_rfl) ?_
        repeat (go_big_quiet_step (first | (go_at_call 46; (first | (with_reducible refine (h1 _).mono ?_) | (with_reducible refine (h2 _).mono ?_) | (with_reducible refine (h3 _).mono ?_) | (with_reducible refine (h4 _).mono ?_) | (with_reducible refine (h5 _).mono ?_) | (with_reducible refine (h6 _).mono ?_)); rintro e w9 ⟨rfl, rfl⟩; exact ⟨rfl, _, rfl⟩) | (go_at_call 45; (first | (with_reducible refine (g1 _).mono ?_) | (with_reducible refine (g2 _).mono ?_) | (with_reducible refine (g3 _).mono ?_) | (with_reducible refine (g4 _).mono ?_)); rintro e w9 ⟨rfl, rfl⟩; exact ⟨rfl, _, rfl⟩) | (go_at_call 47; (first | (with_reducible refine (g5 _).mono ?_) | (with_reducible refine (g6 _).mono ?_) | (with_reducible refine (g7 _).mono ?_)); rintro e w9 ⟨rfl, k9⟩; exact ⟨rfl, ⟨_, (KS.property _).trans k9⟩, rfl⟩)))
        refine wpQuiet_nil ?_
        rintro _ ⟨u, rfl⟩
        have ku := k0.trans u.property
        generalize u.val = wu at *
        go_wp2
        go_ret
        exact ⟨rfl, ku⟩
      | true =>
        cases y3 with
        | false =>
          refine wp_region_ks (by kernel_rfl) (by kernel_rfl) ?_
          repeat (go_big_quiet_step (first | (go_at_call 46; (first | (with_reducible refine (h1 _).mono ?_) | (with_reducible refine (h2 _).mono ?_) | (with_reducible refine (h3 _).mono ?_) | (with_reducible refine (h4 _).mono ?_) | (with_reducible refine (h5 _).mono ?_) | (with_reducible refine (h6 _).mono ?_)); rintro e w9 ⟨rfl, rfl⟩; exact ⟨rfl, _, rfl⟩) | (go_at_call 45; (first | (with_reducible refine (g1 _).mono ?_) | (with_reducible refine (g2 _).mono ?_) | (with_reducible refine (g3 _).mono ?_) | (with_reducible refine (g4 _).mono ?_)); rintro e w9 ⟨rfl, rfl⟩; exact ⟨rfl, _, rfl⟩) | (go_at_call 47; (first | (with_reducible refine (g5 _).mono ?_) | (with_reducible refine (g6 _).mono ?_) | (with_reducible refine (g7 _).mono ?_)); rintro e w9 ⟨rfl, k9⟩; exact ⟨rfl, ⟨_, (KS.property _).trans k9⟩, rfl⟩)))
          refine wpQuiet_nil ?_
          rintro _ ⟨u, rfl⟩
          have ku := k0.trans u.property
          generalize u.val = wu at *
          go_wp2
          go_ret
          exact ⟨rfl, ku⟩
        | true =>
          cases y4 with
          | false =>
            refine wp_region_ks (by kernel_rfl) (by kernel_rfl) ?_
            repeat (go_big_quiet_step (first | (go_at_call 46; (first | (with_reducible refine (h1 _).mono ?_) | (with_reducible refine (h2 _).mono ?_) | (with_reducible refine (h3 _).mono ?_) | (with_reducible refine (h4 _).mono ?_) | (with_reducible refine (h5 _).mono ?_) | (with_reducible refine (h6 _).mono ?_)); rintro e w9 ⟨rfl, rfl⟩; exact ⟨rfl, _, rfl⟩) | (go_at_call 45; (first | (with_reducible refine (g1 _).mono ?_) | (with_reducible refine (g2 _).mono ?_) | (with_reducible refine (g3 _).mono ?_) | (with_reducible refine (g4 _).mono ?_)); rintro e w9 ⟨rfl, rfl⟩; exact ⟨rfl, _, rfl⟩) | (go_at_call 47; (first | (with_reducible refine (g5 _).mono ?_) | (with_reducible refine (g6 _).mono ?_) | (with_reducible refine (g7 _).mono ?_)); rintro e w9 ⟨rfl, k9⟩; exact ⟨rfl, ⟨_, (KS.property _).trans k9⟩, rfl⟩)))
            refine wpQuiet_nil ?_
            rintro _ ⟨u, rfl⟩
            have ku := k0.trans u.property
            generalize u.val = wu at *
            go_wp2
            go_ret
            exact ⟨rfl, ku⟩
          | true =>
            refine wp_region_ks (by kernel_rfl) (by kernel_rfl) ?_
            repeat (go_big_quiet_step (first | (go_at_call 46; (first | (with_reducible refine (h1 _).mono ?_) | (with_reducible refine (h2 _).mono ?_) | (with_reducible refine (h3 _).mono ?_) | (with_reducible refine (h4 _).mono ?_) | (with_reducible refine (h5 _).mono ?_) | (with_reducible refine (h6 _).mono ?_)); rintro e w9 ⟨rfl, rfl⟩; exact ⟨rfl, _, rfl⟩) | (go_at_call 45; (first | (with_reducible refine (g1 _).mono ?_) | (with_reducible refine (g2 _).mono ?_) | (with_reducible refine (g3 _).mono ?_) | (with_reducible refine (g4 _).mono ?_)); rintro e w9 ⟨rfl, rfl⟩; exact ⟨rfl, _, rfl⟩) | (go_at_call 47; (first | (with_reducible refine (g5 _).mono ?_) | (with_reducible refine (g6 _).mono ?_) | (with_reducible refine (g7 _).mono ?_)); rintro e w9 ⟨rfl, k9⟩; exact ⟨rfl, ⟨_, (KS.property _).trans k9⟩, rfl⟩)))
            refine wpQuiet_nil ?_
            rintro _ ⟨u, rfl⟩
            have ku := k0.trans u.property
            have c2 := u.property.cell c2 (fun e => e)
            have c3 := u.property.cell c3 (fun e => e)
            have c4 := u.property.cell c4 (fun e => e)
            have c5 := u.property.cell c5 (fun e => e)
            have c6 := u.property.cell c6 (fun e => e)
            have c7 := u.property.cell c7 (fun e => e)
            clear d0 d1 d2 d3 d4 d5 d6 d7 d8 d9 d10
            generalize u.val = wu at *
            have hNE2 : Nonempty (KS wu) := ⟨⟨wu, Keeps.refl _ wu⟩⟩
            go_wp2_with fail
            have d2 := ks_cell c2
            have d3 := ks_cell c3
            have d4 := ks_cell c4
            have d5 := ks_cell c5
            have d6 := ks_cell c6
            have d7 := ks_cell c7
            cases y5 with
            | false =>
              refine wp_region_ks (by kernel_rfl) (by kernel_rfl) ?_
              repeat (go_big_quiet_step (first | (go_at_call 46; (first | (with_reducible refine (h1 _).mono ?_) | (with_reducible refine (h2 _).mono ?_) | (with_reducible refine (h3 _).mono ?_) | (with_reducible refine (h4 _).mono ?_) | (with_reducible refine (h5 _).mono ?_) | (with_reducible refine (h6 _).mono ?_)); rintro e w9 ⟨rfl, rfl⟩; exact ⟨rfl, _, rfl⟩) | (go_at_call 45; (first | (with_reducible refine (g1 _).mono ?_) | (with_reducible refine (g2 _).mono ?_) | (with_reducible refine (g3 _).mono ?_) | (with_reducible refine (g4 _).mono ?_)); rintro e w9 ⟨rfl, rfl⟩; exact ⟨rfl, _, rfl⟩) | (go_at_call 47; (first | (with_reducible refine (g5 _).mono ?_) | (with_reducible refine (g6 _).mono ?_) | (with_reducible refine (g7 _).mono ?_)); rintro e w9 ⟨rfl, k9⟩; exact ⟨rfl, ⟨_, (KS.property _).trans k9⟩, rfl⟩)))
              refine wpQuiet_nil ?_
              rintro _ ⟨u2, rfl⟩
              have ku2 := ku.trans u2.property
              generalize u2.val = wu2 at *
              go_wp2
              go_ret
              exact ⟨rfl, ku2⟩
            | true =>
              cases y6 with
              | false =>
                refine wp_region_ks (by kernel_rfl) (by kernel_rfl) ?_
                repeat (go_big_quiet_step (first | (go_at_call 46; (first | (with_reducible refine (h1 _).mono ?_) | (with_reducible refine (h2 _).mono ?_) | (with_reducible refine (h3 _).mono ?_) | (with_reducible refine (h4 _).mono ?_) | (with_reducible refine (h5 _).mono ?_) | (with_reducible refine (h6 _).mono ?_)); rintro e w9 ⟨rfl, rfl⟩; exact ⟨rfl, _, rfl⟩) | (go_at_call 45; (first | (with_reducible refine (g1 _).mono ?_) | (with_reducible refine (g2 _).mono ?_) | (with_reducible refine (g3 _).mono ?_) | (with_reducible refine (g4 _).mono ?_)); rintro e w9 ⟨rfl, rfl⟩; exact ⟨rfl, _, rfl⟩) | (go_at_call 47; (first | (with_reducible refine (g5 _).mono ?_) | (with_reducible refine (g6 _).mono ?_) | (with_reducible refine (g7 _).mono ?_)); rintro e w9 ⟨rfl, k9⟩; exact ⟨rfl, ⟨_, (KS.property _).trans k9⟩, rfl⟩)))
                refine wpQuiet_nil ?_
                rintro _ ⟨u2, rfl⟩
                have ku2 := ku.trans u2.property
                generalize u2.val = wu2 at *
                go_wp2
                go_ret
                exact ⟨rfl, ku2⟩
              | true =>
                refine wp_region_ks (by kernel_rfl) (by kernel_rfl) ?_
                repeat (go_big_quiet_step (first | (go_at_call 46; (first | (with_reducible refine (h1 _).mono ?_) | (with_reducible refine (h2 _).mono ?_) | (with_reducible refine (h3 _).mono ?_) | (with_reducible refine (h4 _).mono ?_) | (with_reducible refine (h5 _).mono ?_) | (with_reducible refine (h6 _).mono ?_)); rintro e w9 ⟨rfl, rfl⟩; exact ⟨rfl, _, rfl⟩) | (go_at_call 45; (first | (with_reducible refine (g1 _).mono ?_) | (with_reducible refine (g2 _).mono ?_) | (with_reducible refine (g3 _).mono ?_) | (with_reducible refine (g4 _).mono ?_)); rintro e w9 ⟨rfl, rfl⟩; exact ⟨rfl, _, rfl⟩) | (go_at_call 47; (first | (with_reducible refine (g5 _).mono ?_) | (with_reducible refine (g6 _).mono ?_) | (with_reducible refine (g7 _).mono ?_)); rintro e w9 ⟨rfl, k9⟩; exact ⟨rfl, ⟨_, (KS.property _).trans k9⟩, rfl⟩)))
                refine wpQuiet_nil ?_
                rintro _ ⟨u2, rfl⟩
                have ku2 := ku.trans u2.property
                generalize u2.val = wu2 at *
                go_wp2
                go_ret
                exact ⟨rfl, ku2⟩
  · rw [can_out (q := ⟨cd, dst, oR, oN, xR, xN, yR, yN, op, rel, to⟩) (by show cd < 1 ∨ 10 < cd; omega)]
    by_cases hr1 : cd < 1
    · have b1 : decide (cd < 1) = true := by simp; omega
      go_enter Tryd.func29, Tryd.ntmps29
      subst hw0
      go_wp2
      go_ret
      exact ⟨rfl, k0⟩
    · have b1 : decide (cd < 1) = false := by simp; omega
      have b2 : decide (10 < cd) = true := by simp; omega
      go_enter Tryd.func29, Tryd.ntmps29
      subst hw0
      go_wp2
      go_ret
      exact ⟨rfl, k0⟩
end Go.Proofs.YtanmpioplckgbaaDoor
