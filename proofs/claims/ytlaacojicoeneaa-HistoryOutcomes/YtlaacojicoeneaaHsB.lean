import Derived.Test.YtlaacojicoeneaaHsA
namespace Go.Proofs.Ytlaacojicoeneaa
open Go.RowKit
/-- A block of numbers. -/
structure IB (w : World) (b n : Nat) (f : Nat → Int) : Prop where
  c : ∀ o, o < n → w.cell? ⟨b, o, none⟩ = some (.int .i64 (f o))
  z : ∀ o, o < n → w.frozen? ⟨b, o, none⟩ = false
/-- One number is turned. -/
def up (f : Nat → Int) (o : Nat) (v : Int) : Nat → Int := fun p => if p = o then v else f p
theorem up_same {f : Nat → Int} {o : Nat} {v : Int} : up f o v o = v := if_pos rfl
theorem up_other {f : Nat → Int} {o p : Nat} {v : Int} (h : p ≠ o) : up f o v p = f p := if_neg h
section
variable {w w' : World} {b n : Nat} {f : Nat → Int}
theorem IB.lt (h : IB w b n f) (hn : 0 < n) : b < w.heap.size := World.block_lt_of_cell? _ _ (h.c 0 hn)
theorem IB.keep (h : IB w b n f) (hn : 0 < n) {S : Nat → Prop} (k : Keeps S w w') (hS : ¬ S b) : IB w' b n f :=
  ⟨fun o ho => k.cell (h.c o ho) hS, fun o ho => (k.frozen (p := ⟨b, o, none⟩) (h.lt hn) hS).trans (h.z o ho)⟩
theorem IB.set (h : IB w b n f) {o : Nat} (ho : o < n) (v : Int) : IB (w.setCell ⟨b, o, none⟩ (.int .i64 v)) b n (up f o v) := by
  refine ⟨fun p hp => ?_, fun p hp => by simp only [World.frozen?_setCell]; exact h.z p hp⟩
  by_cases e : p = o
  · subst e
    rw [up_same]
    exact World.cell?_setCell_same _ _ _ (h.c p hp)
  · rw [up_other e, World.cell?_setCell_other _ _ _ _ (by intro e2; injection e2 with _ e3; exact e e3.symm)]
    exact h.c p hp
end
theorem IB.made (w : World) (n : Nat) (v : Int) (t : TypeId) : IB (w.alloc (.cells (List.replicate n (.int .i64 v)).toArray t)) w.heap.size n (fun _ => v) := by
  have := CL.made w (List.replicate n (.int .i64 v)) t
  exact ⟨fun o ho => this.c o _ (by simp [ho]), fun o ho => this.z o (by simpa using ho)⟩
set_option maxHeartbeats 2000000 in
set_option maxRecDepth 100000 in
theorem readFits_any (w : World) (s j t n cn : Int) (r : Rw) : Calls Try.prog 55 #[.agg #[.int .i64 s, .int .i64 j, .int .i64 t, .int .i64 n, .int .i64 cn], .agg r.cells.toArray] w fun e w' => e = .returned (.bool (readP r cn)) ∧ Keeps (fun _ => False) w w' := by
  obtain ⟨W, eW⟩ : ∃ W, W = w.alloc (.cells #[.int .i64 s, .int .i64 j, .int .i64 t, .int .i64 n, .int .i64 cn] 107) := ⟨_, rfl⟩
  have m0 : CL W w.heap.size [.int .i64 s, .int .i64 j, .int .i64 t, .int .i64 n, .int .i64 cn] := by rw [eW]; exact CL.made w _ _
  have kW : Keeps (fun _ => False) w W := by rw [eW]; exact (Keeps.refl _ w).alloc _
  have hzW : W.heap.size = w.heap.size + 1 := by rw [eW]; simp
  obtain ⟨w0, e0, k0, hb, -⟩ := rw_box W r
  rw [hzW] at hb
  have d4 := k0.cell (m0.c 4 _ rfl) (fun e => e)
  have k0 := kW.trans k0
  obtain ⟨-, c0, c1, c2, c3, c4, c5, c6, c7, c8, c11, c13, c17, c21, c25⟩ := hb
  clear c0 c1 c2 c3 c4 c11 c13 c25 m0 kW hzW
  go_enter Try.func55, Try.ntmps55
  refine wp_seq_k (fun KK hKK => ?_)
  have hKH : Hid _ := hKK
  clear hKK
  go_wp2_with fail
  refine hKH.out _ _ ?_
  clear hKH KK
  rw [← eW, ← e0]
  clear e0 eW
  unfold readP
  generalize r.told = tl at *
  generalize r.puts = pt at *
  generalize r.object = ob at *
  generalize r.kind = kd at *
  generalize r.phase = ph at *
  generalize r.entry = en at *
  by_cases hob : ob < 0
  · have b1 : decide (ob < 0) = true := decide_eq_true hob
    cases tl
    · cases pt
      · by_cases hk : kd = 4
        · subst hk
          cases h1 : decide (-1 ≤ en) <;> cases h2 : decide (en < cn) <;> (go_wp2; go_ret; (first | exact ⟨rfl, k0⟩ | (simp [*]; done)))
        · have b2 : (kd == 4) = false := beq_eq_false_iff_ne.2 hk
          (go_wp2; go_ret; (first | exact ⟨rfl, k0⟩ | (simp [*]; done)))
      · (go_wp2; go_ret; (first | exact ⟨rfl, k0⟩ | (simp [*]; done)))
    · (go_wp2; go_ret; (first | exact ⟨rfl, k0⟩ | (simp [*]; done)))
  · have b1 : decide (ob < 0) = false := decide_eq_false hob
    cases tl
    · cases pt
      · by_cases hk : kd = 4
        · subst hk
          cases h1 : decide (-1 ≤ en) <;> cases h2 : decide (en < cn) <;> (go_wp2; go_ret; (first | exact ⟨rfl, k0⟩ | (simp [*]; done)))
        · have b2 : (kd == 4) = false := beq_eq_false_iff_ne.2 hk
          (go_wp2; go_ret; (first | exact ⟨rfl, k0⟩ | (simp [*]; done)))
      · by_cases hk : kd = 4
        · subst hk
          cases h1 : decide (-1 ≤ en) <;> cases h2 : decide (en < cn) <;> (go_wp2; go_ret; (first | exact ⟨rfl, k0⟩ | (simp [*]; done)))
        · have b2 : (kd == 4) = false := beq_eq_false_iff_ne.2 hk
          (go_wp2; go_ret; (first | exact ⟨rfl, k0⟩ | (simp [*]; done)))
    · by_cases hk : kd = 4
      · subst hk
        cases pt <;> (go_wp2; go_ret; (first | exact ⟨rfl, k0⟩ | (simp [*]; done)))
      · have b2 : (kd == 4) = false := beq_eq_false_iff_ne.2 hk
        by_cases hp1 : ph = 1
        · subst hp1
          cases h1 : decide (-1 ≤ en) <;> cases h2 : decide (en ≤ cn) <;> cases pt <;> (go_wp2; go_ret; (first | exact ⟨rfl, k0⟩ | (simp [*]; done)))
        · have b3 : (ph == 1) = false := beq_eq_false_iff_ne.2 hp1
          by_cases hp2 : ph = 2
          · subst hp2
            cases h1 : decide (-1 ≤ en) <;> cases h2 : decide (en < cn) <;> cases pt <;> (go_wp2; go_ret; (first | exact ⟨rfl, k0⟩ | (simp [*]; done)))
          · have b4 : (ph == 2) = false := beq_eq_false_iff_ne.2 hp2
            cases pt <;> (go_wp2; go_ret; (first | exact ⟨rfl, k0⟩ | (simp [*]; done)))
set_option maxHeartbeats 2000000 in
set_option maxRecDepth 100000 in
theorem rtold_any (w : World) {gb : Nat} {g : Nat → Int} (hB : IB w gb 14 g) (r : Rw) (th : Nat) (hth : ofD r.kind = true → r.thread = (th : Int) ∧ th < 6) : Calls Try.prog 29 #[.pointer (some ⟨gb, 0, none⟩), .agg r.cells.toArray] w fun e w' => e = .returned (.bool (readD r (g (6 + th)))) ∧ Keeps (fun _ => False) w w' := by
  obtain ⟨w0, e0, k0, hb, -⟩ := rw_box w r
  have hB0 := hB.keep (by decide) k0 (fun e => e)
  have hof := of_any w0 r.kind
  obtain ⟨-, c0, c1, c2, c3, c4, c5, c6, c7, c8, c11, c13, c17, c21, c25⟩ := hb
  clear c0 c2 c3 c4 c11 c13 c25 hB
  go_enter Try.func29, Try.ntmps29
  refine wp_seq_k (fun KK hKK => ?_)
  have hKH : Hid _ := hKK
  clear hKK
  go_wp2_with fail
  refine hKH.out _ _ ?_
  clear hKH KK
  rw [← e0]
  clear e0
  unfold readD readP
  cases ho : ofD r.kind
  · rw [ho] at hof
    clear hth hB0
    generalize r.told = tl at *
    generalize r.puts = pt at *
    cases tl <;> cases pt <;> (go_wp2_with (go_at_call 43; refine hof.mono ?_; rintro e w9 ⟨rfl, rfl⟩); go_ret; exact ⟨rfl, k0⟩)
  obtain ⟨et, hl⟩ := hth ho
  rw [ho] at hof
  clear hth ho
  have d6 := hB0.c (6 + th) (by omega)
  generalize g (6 + th) = cn at *
  clear hB0
  rw [et] at c1
  clear et
  have i1 : (0 : Int) ≤ (th : Int) := by omega
  have i2 : (th : Int) < 6 := by omega
  generalize r.told = tl at *
  generalize r.puts = pt at *
  generalize r.object = ob at *
  generalize r.kind = kd at *
  generalize r.phase = ph at *
  generalize r.entry = en at *
  refine wp_seq_k (fun KK hKK => ?_)
  have hKH : Hid _ := hKK
  clear hKK
  go_wp2_with (go_at_call 43; refine hof.mono ?_; rintro e w9 ⟨rfl, ew⟩; subst w9)
  refine hKH.out _ _ ?_
  clear hKH KK hof
  have hNE : Nonempty (KS w0) := ⟨⟨w0, Keeps.refl _ w0⟩⟩
  have q1 := ks_cell c1
  have q6 := ks_cell d6
  by_cases hob : ob < 0
  · have b1 : decide (ob < 0) = true := decide_eq_true hob
    cases tl
    · cases pt
      · by_cases hk : kd = 4
        · subst hk
          cases h1 : decide (-1 ≤ en) <;> cases h2 : decide (en < cn) <;> (go_wp2_with fail; (first | (go_ret; exact ⟨rfl, k0⟩) | (refine wp_region_ks (by kernel_rfl) (by kernel_rfl) ?_; (repeat (go_big_quiet_step (fail))); refine wpQuiet_nil ?_; rintro _ ⟨u, rfl⟩; clear q1 q6; have z5 := u.property.cell c5 (fun e => e); have z6 := u.property.cell c6 (fun e => e); have z8 := u.property.cell c8 (fun e => e); have z17 := u.property.cell c17 (fun e => e); have kk := k0.trans u.property; generalize u.val = wu at *; go_wp2; go_ret; (first | exact ⟨rfl, kk⟩ | (simp [*]; done)))))
        · have b2 : (kd == 4) = false := beq_eq_false_iff_ne.2 hk
          (go_wp2_with fail; (first | (go_ret; exact ⟨rfl, k0⟩) | (refine wp_region_ks (by kernel_rfl) (by kernel_rfl) ?_; (repeat (go_big_quiet_step (fail))); refine wpQuiet_nil ?_; rintro _ ⟨u, rfl⟩; clear q1 q6; have z5 := u.property.cell c5 (fun e => e); have z6 := u.property.cell c6 (fun e => e); have z8 := u.property.cell c8 (fun e => e); have z17 := u.property.cell c17 (fun e => e); have kk := k0.trans u.property; generalize u.val = wu at *; go_wp2; go_ret; (first | exact ⟨rfl, kk⟩ | (simp [*]; done)))))
      · (go_wp2_with fail; (first | (go_ret; exact ⟨rfl, k0⟩) | (refine wp_region_ks (by kernel_rfl) (by kernel_rfl) ?_; (repeat (go_big_quiet_step (fail))); refine wpQuiet_nil ?_; rintro _ ⟨u, rfl⟩; clear q1 q6; have z5 := u.property.cell c5 (fun e => e); have z6 := u.property.cell c6 (fun e => e); have z8 := u.property.cell c8 (fun e => e); have z17 := u.property.cell c17 (fun e => e); have kk := k0.trans u.property; generalize u.val = wu at *; go_wp2; go_ret; (first | exact ⟨rfl, kk⟩ | (simp [*]; done)))))
    · (go_wp2_with fail; (first | (go_ret; exact ⟨rfl, k0⟩) | (refine wp_region_ks (by kernel_rfl) (by kernel_rfl) ?_; (repeat (go_big_quiet_step (fail))); refine wpQuiet_nil ?_; rintro _ ⟨u, rfl⟩; clear q1 q6; have z5 := u.property.cell c5 (fun e => e); have z6 := u.property.cell c6 (fun e => e); have z8 := u.property.cell c8 (fun e => e); have z17 := u.property.cell c17 (fun e => e); have kk := k0.trans u.property; generalize u.val = wu at *; go_wp2; go_ret; (first | exact ⟨rfl, kk⟩ | (simp [*]; done)))))
  · have b1 : decide (ob < 0) = false := decide_eq_false hob
    cases tl
    · cases pt
      · by_cases hk : kd = 4
        · subst hk
          cases h1 : decide (-1 ≤ en) <;> cases h2 : decide (en < cn) <;> (go_wp2_with fail; (first | (go_ret; exact ⟨rfl, k0⟩) | (refine wp_region_ks (by kernel_rfl) (by kernel_rfl) ?_; (repeat (go_big_quiet_step (fail))); refine wpQuiet_nil ?_; rintro _ ⟨u, rfl⟩; clear q1 q6; have z5 := u.property.cell c5 (fun e => e); have z6 := u.property.cell c6 (fun e => e); have z8 := u.property.cell c8 (fun e => e); have z17 := u.property.cell c17 (fun e => e); have kk := k0.trans u.property; generalize u.val = wu at *; go_wp2; go_ret; (first | exact ⟨rfl, kk⟩ | (simp [*]; done)))))
        · have b2 : (kd == 4) = false := beq_eq_false_iff_ne.2 hk
          (go_wp2_with fail; (first | (go_ret; exact ⟨rfl, k0⟩) | (refine wp_region_ks (by kernel_rfl) (by kernel_rfl) ?_; (repeat (go_big_quiet_step (fail))); refine wpQuiet_nil ?_; rintro _ ⟨u, rfl⟩; clear q1 q6; have z5 := u.property.cell c5 (fun e => e); have z6 := u.property.cell c6 (fun e => e); have z8 := u.property.cell c8 (fun e => e); have z17 := u.property.cell c17 (fun e => e); have kk := k0.trans u.property; generalize u.val = wu at *; go_wp2; go_ret; (first | exact ⟨rfl, kk⟩ | (simp [*]; done)))))
      · by_cases hk : kd = 4
        · subst hk
          cases h1 : decide (-1 ≤ en) <;> cases h2 : decide (en < cn) <;> (go_wp2_with fail; (first | (go_ret; exact ⟨rfl, k0⟩) | (refine wp_region_ks (by kernel_rfl) (by kernel_rfl) ?_; (repeat (go_big_quiet_step (fail))); refine wpQuiet_nil ?_; rintro _ ⟨u, rfl⟩; clear q1 q6; have z5 := u.property.cell c5 (fun e => e); have z6 := u.property.cell c6 (fun e => e); have z8 := u.property.cell c8 (fun e => e); have z17 := u.property.cell c17 (fun e => e); have kk := k0.trans u.property; generalize u.val = wu at *; go_wp2; go_ret; (first | exact ⟨rfl, kk⟩ | (simp [*]; done)))))
        · have b2 : (kd == 4) = false := beq_eq_false_iff_ne.2 hk
          (go_wp2_with fail; (first | (go_ret; exact ⟨rfl, k0⟩) | (refine wp_region_ks (by kernel_rfl) (by kernel_rfl) ?_; (repeat (go_big_quiet_step (fail))); refine wpQuiet_nil ?_; rintro _ ⟨u, rfl⟩; clear q1 q6; have z5 := u.property.cell c5 (fun e => e); have z6 := u.property.cell c6 (fun e => e); have z8 := u.property.cell c8 (fun e => e); have z17 := u.property.cell c17 (fun e => e); have kk := k0.trans u.property; generalize u.val = wu at *; go_wp2; go_ret; (first | exact ⟨rfl, kk⟩ | (simp [*]; done)))))
    · by_cases hk : kd = 4
      · subst hk
        cases pt <;> (go_wp2_with fail; (first | (go_ret; exact ⟨rfl, k0⟩) | (refine wp_region_ks (by kernel_rfl) (by kernel_rfl) ?_; (repeat (go_big_quiet_step (fail))); refine wpQuiet_nil ?_; rintro _ ⟨u, rfl⟩; clear q1 q6; have z5 := u.property.cell c5 (fun e => e); have z6 := u.property.cell c6 (fun e => e); have z8 := u.property.cell c8 (fun e => e); have z17 := u.property.cell c17 (fun e => e); have kk := k0.trans u.property; generalize u.val = wu at *; go_wp2; go_ret; (first | exact ⟨rfl, kk⟩ | (simp [*]; done)))))
      · have b2 : (kd == 4) = false := beq_eq_false_iff_ne.2 hk
        by_cases hp1 : ph = 1
        · subst hp1
          cases h1 : decide (-1 ≤ en) <;> cases h2 : decide (en ≤ cn) <;> cases pt <;> (go_wp2_with fail; (first | (go_ret; exact ⟨rfl, k0⟩) | (refine wp_region_ks (by kernel_rfl) (by kernel_rfl) ?_; (repeat (go_big_quiet_step (fail))); refine wpQuiet_nil ?_; rintro _ ⟨u, rfl⟩; clear q1 q6; have z5 := u.property.cell c5 (fun e => e); have z6 := u.property.cell c6 (fun e => e); have z8 := u.property.cell c8 (fun e => e); have z17 := u.property.cell c17 (fun e => e); have kk := k0.trans u.property; generalize u.val = wu at *; go_wp2; go_ret; (first | exact ⟨rfl, kk⟩ | (simp [*]; done)))))
        · have b3 : (ph == 1) = false := beq_eq_false_iff_ne.2 hp1
          by_cases hp2 : ph = 2
          · subst hp2
            cases h1 : decide (-1 ≤ en) <;> cases h2 : decide (en < cn) <;> cases pt <;> (go_wp2_with fail; (first | (go_ret; exact ⟨rfl, k0⟩) | (refine wp_region_ks (by kernel_rfl) (by kernel_rfl) ?_; (repeat (go_big_quiet_step (fail))); refine wpQuiet_nil ?_; rintro _ ⟨u, rfl⟩; clear q1 q6; have z5 := u.property.cell c5 (fun e => e); have z6 := u.property.cell c6 (fun e => e); have z8 := u.property.cell c8 (fun e => e); have z17 := u.property.cell c17 (fun e => e); have kk := k0.trans u.property; generalize u.val = wu at *; go_wp2; go_ret; (first | exact ⟨rfl, kk⟩ | (simp [*]; done)))))
          · have b4 : (ph == 2) = false := beq_eq_false_iff_ne.2 hp2
            cases pt <;> (go_wp2_with fail; (first | (go_ret; exact ⟨rfl, k0⟩) | (refine wp_region_ks (by kernel_rfl) (by kernel_rfl) ?_; (repeat (go_big_quiet_step (fail))); refine wpQuiet_nil ?_; rintro _ ⟨u, rfl⟩; clear q1 q6; have z5 := u.property.cell c5 (fun e => e); have z6 := u.property.cell c6 (fun e => e); have z8 := u.property.cell c8 (fun e => e); have z17 := u.property.cell c17 (fun e => e); have kk := k0.trans u.property; generalize u.val = wu at *; go_wp2; go_ret; (first | exact ⟨rfl, kk⟩ | (simp [*]; done)))))
end Go.Proofs.Ytlaacojicoeneaa
