import Derived.Test.YtmnmphkkcabkiaaG02
namespace Go.Proofs.Ytmnmphkkcabkiaa
open Go.RowKit
theorem ks_ne {w : World} {p : Addr} {v : Value} (_ : w.cell? p = some v) : Nonempty (KS w) := ⟨⟨w, Keeps.refl _ w⟩⟩
theorem run_store_int {w : World} {b o : Nat} (hc : (w.cell? ⟨b, o, none⟩).isSome = true) (hz : w.frozen? ⟨b, o, none⟩ = false) (v : Int) : (storeVar 3 ⟨b, o, none⟩ (.int .i64 v)).run Try.prog w = .ok () (w.setCell ⟨b, o, none⟩ (.int .i64 v)) := by
  obtain ⟨u, hu⟩ := Option.isSome_iff_exists.1 hc
  go_simp
theorem wpList_store_ib {w : World} {ops : Array Oper} {rest : List Oper} {o : Oper} {a : Act} {Q : Exit → Act → World → Prop} (hgd : o.guard = none) (hd : o.dst = none) (x y : Operand) (ho : o.op = .store 3 x y) (b off : Nat) (hx : a.eval x = .pointer (some ⟨b, off, none⟩)) (v : Int) (hy : a.eval y = .int .i64 v)
    {n : Nat} {f : Nat → Int} (hB : IB w b n f) (hl : off < n) (h : ∀ w1, IB w1 b n (up f off v) → Keeps (fun k => k = b) w w1 → w1.heap.size = w.heap.size → wpList Try.prog ops Q rest a w1) : wpList Try.prog ops Q (o :: rest) a w :=
  wpList_plain hgd fun _ hK => by
    unfold Oper.wp execOp
    simp only [ho, hx, hy, Instr.storeAt, Instr.sureAddr, Sem.run_bind, Sem.run_pure, Result.andThen_ok, run_store_int (by rw [hB.c off hl]; rfl) (hB.z off hl) v]
    refine hK _ _ ?_
    rw [hd]
    exact (h _ (hB.set hl v) ((Keeps.refl (fun k => k = b) w).setCell (p := ⟨b, off, none⟩) (fun _ => rfl) _) (by simp))
theorem wpList_store_ib3 {w : World} {ops : Array Oper} {rest : List Oper} {o : Oper} {a : Act} {Q : Exit → Act → World → Prop} (hgd : o.guard = none) (hd : o.dst = none) (x y : Operand) (ho : o.op = .store 107 x y) (b off : Nat) (hx : a.eval x = .pointer (some ⟨b, off, none⟩)) (v1 v2 v3 : Int) (hy : a.eval y = .agg #[.int .i64 v1, .int .i64 v2, .int .i64 v3])
    {n : Nat} {f : Nat → Int} (hB : IB w b n f) (hl : off + 2 < n) (h : ∀ w1, IB w1 b n (up (up (up f off v1) (off + 1) v2) (off + 2) v3) → Keeps (fun k => k = b) w w1 → w1.heap.size = w.heap.size → wpList Try.prog ops Q rest a w1) : wpList Try.prog ops Q (o :: rest) a w :=
  wpList_store_mid hgd 107 x y ho b off #[.int .i64 v1, .int .i64 v2, .int .i64 v3] hx hy (fun j hj => by
    have hj : j < 3 := hj
    exact ⟨by rw [hB.c (off + j) (by omega)]; rfl, hB.z (off + j) (by omega)⟩) (by kernel_rfl) (all_oneCell_toArray (cs := [.int .i64 v1, .int .i64 v2, .int .i64 v3]) (fun v hv => by simp at hv; rcases hv with rfl | rfl | rfl <;> rfl))
    (by rw [hd]; exact h _ (((hB.set (by omega) v1).set (by omega) v2).set (by omega) v3) ((((Keeps.refl (fun k => k = b) w).setCell (p := ⟨b, off, none⟩) (fun _ => rfl) _).setCell (p := ⟨b, off + 1, none⟩) (fun _ => rfl) _).setCell (p := ⟨b, off + 1 + 1, none⟩) (fun _ => rfl) _) (by
      show ((w.setCell _ _).setCell _ _ |>.setCell _ _).heap.size = _
      simp))
def fol1 (f : Nat → Int) (r : Rw) (th : Nat) : Nat → Int := up (up (up f (th * 5 + 1) r.job) (th * 5 + 2) r.try_) (th * 5 + 3) r.no
def fol2 (f : Nat → Int) (r : Rw) (th : Nat) : Nat → Int :=
  if r.kind = 1 then up (up (up (up (fol1 f r th) 30 (f 30 + 1)) 31 (f 31 + 1)) (th * 5) 1) (th * 5 + 4) 0
  else if r.kind = 2 then up (up (up (fol1 f r th) 31 (f 31 + 1)) (th * 5) 1) (th * 5 + 4) 0
  else if r.kind = 17 then up (fol1 f r th) (th * 5) 0
  else fol1 f r th
def fol3 (f : Nat → Int) (r : Rw) (th : Nat) : Nat → Int :=
  if r.told && r.entry == f (th * 5 + 4) then up (fol2 f r th) (th * 5 + 4) (f (th * 5 + 4) + 1) else fol2 f r th
def folP (f : Nat → Int) (r : Rw) (th : Nat) : Nat → Int :=
  if r.kind = 0 then f else if dec r.fin then up (fol3 f r th) (th * 5) 3 else if r.fin != 0 then up (fol3 f r th) (th * 5) 2 else fol3 f r th
set_option maxHeartbeats 1000000 in
set_option maxRecDepth 100000 in
theorem follow_0 (w : World) {kb : Nat} {f : Nat → Int} (hK : IB w kb 32 f) (r : Rw) (th : Nat) (hk : r.kind = 0) : Calls Try.prog 39 #[.pointer (some ⟨kb, 0, none⟩), .agg r.cells.toArray] w fun e w' => e = .returned (.tuple #[]) ∧ IB w' kb 32 (folP f r th) ∧ Keeps (fun k => k = kb) w w' := by
  obtain ⟨w0, e0, k0, hb, hz0⟩ := rw_box w r
  have hK0 := hK.keep (by decide) k0 (fun e => e)
  have hne : ¬ kb = w.heap.size := fun e => by have := hK.lt (by decide); omega
  have k0 := k0.mono (T := fun k => k = kb) (fun _ _ e => e.elim)
  obtain ⟨hcl, c0, c1, c2, c3, c4, c5, c6, c7, c8, c11, c13, c17, c21, c25⟩ := hb
  have e1 : folP f r th = f := by unfold folP; rw [if_pos hk]
  rw [e1]
  rw [hk] at c5
  clear c0 c1 c2 c3 c4 c6 c7 c8 c11 c13 c17 c21 c25 hcl hK hk
  go_enter Try.func39, Try.ntmps39
  refine wp_seq_k (fun KK hKK => ?_)
  have hKH : Hid _ := hKK
  clear hKK
  go_wp2_with fail
  refine hKH.out _ _ ?_
  clear hKH KK
  rw [← e0]
  clear e0
  go_wp2
  exact bodyPost_ret (v := .tuple #[]) (results_none rfl _ _ _) rfl ⟨rfl, hK0, k0⟩
set_option maxHeartbeats 1000000 in
set_option maxRecDepth 100000 in
theorem follow_x (w : World) {kb : Nat} {f : Nat → Int} (hK : IB w kb 32 f) (r : Rw) (th : Nat) (hk : r.kind ≠ 0 ∧ r.kind ≠ 1 ∧ r.kind ≠ 2 ∧ r.kind ≠ 17) (et : r.thread = (th : Int)) (ht : th < 6) (hB : ∀ i, i < 32 → f i + 1 ≤ 9223372036854775807 ∧ -9223372036854775808 ≤ f i) : Calls Try.prog 39 #[.pointer (some ⟨kb, 0, none⟩), .agg r.cells.toArray] w fun e w' => e = .returned (.tuple #[]) ∧ IB w' kb 32 (folP f r th) ∧ Keeps (fun k => k = kb) w w' := by
  obtain ⟨w0, e0, k0, hb, hz0⟩ := rw_box w r
  have hK0 := hK.keep (by decide) k0 (fun e => e)
  have hne : ¬ kb = w.heap.size := fun e => by have := hK.lt (by decide); omega
  have k0 := k0.mono (T := fun k => k = kb) (fun _ _ e => e.elim)
  obtain ⟨hcl, c0, c1, c2, c3, c4, c5, c6, c7, c8, c11, c13, c17, c21, c25⟩ := hb
  rw [et] at c1
  have i1 : (0 : Int) ≤ (th : Int) := by omega
  have i2 : (th : Int) < 6 := by omega
  have q1 := ks_cell c1
  have hNE : Nonempty (KS w0) := ⟨⟨w0, Keeps.refl _ w0⟩⟩
  have b0 : (r.kind == 0) = false := beq_eq_false_iff_ne.2 hk.1
  have hF : folP f r th = (if dec r.fin = true then up (if (r.told && (r.entry == f (th * 5 + 4))) = true then up (up (up (up f (th * 5 + 1) r.job) (th * 5 + 2) r.try_) (th * 5 + 3) r.no) (th * 5 + 4) (f (th * 5 + 4) + 1) else (up (up (up f (th * 5 + 1) r.job) (th * 5 + 2) r.try_) (th * 5 + 3) r.no)) (th * 5) 3 else if (r.fin != 0) = true then up (if (r.told && (r.entry == f (th * 5 + 4))) = true then up (up (up (up f (th * 5 + 1) r.job) (th * 5 + 2) r.try_) (th * 5 + 3) r.no) (th * 5 + 4) (f (th * 5 + 4) + 1) else (up (up (up f (th * 5 + 1) r.job) (th * 5 + 2) r.try_) (th * 5 + 3) r.no)) (th * 5) 2 else (if (r.told && (r.entry == f (th * 5 + 4))) = true then up (up (up (up f (th * 5 + 1) r.job) (th * 5 + 2) r.try_) (th * 5 + 3) r.no) (th * 5 + 4) (f (th * 5 + 4) + 1) else (up (up (up f (th * 5 + 1) r.job) (th * 5 + 2) r.try_) (th * 5 + 3) r.no))) := by
    unfold folP fol3 fol2 fol1
    rw [if_neg hk.1, if_neg hk.2.1, if_neg hk.2.2.1, if_neg hk.2.2.2]
  rw [hF]
  clear hF
  have v4 : IntKind.i64.wrap (f (th * 5 + 4) + 1) = f (th * 5 + 4) + 1 := by have := hB (th * 5 + 4) (by omega); rw [IntKind.wrap_i64]; omega
  have hdc := fun W => decides_any W r.fin
  clear hB
  generalize dec r.fin = dz at *
  generalize hfz : (r.fin != 0) = fz
  generalize htl : r.told = tl
  generalize hz2 : (r.entry == f (th * 5 + 4)) = z2
  go_enter Try.func39, Try.ntmps39
  refine wp_seq_k (fun KK hKK => ?_)
  have hKH : Hid _ := hKK
  clear hKK
  go_wp2_with fail
  refine hKH.out _ _ ?_
  clear hKH KK
  rw [← e0]
  clear e0
  go_wp2_with fail
  refine wp_region_ks (by kernel_rfl) (by kernel_rfl) ?_
  (repeat (go_big_quiet_step (fail)))
  refine wpQuiet_nil ?_
  rintro _ ⟨u, rfl⟩
  have hcl := hcl.keep (by show 0 < 26; decide) u.property (fun e => e)
  have hK1 := hK0.keep (by decide) u.property (fun e => e)
  have k1 := k0.trans (u.property.mono (T := fun k => k = kb) (fun _ _ e => e.elim))
  generalize u.val = w1 at *
  obtain ⟨-, c0, c1, c2, c3, c4, c5, c6, c7, c8, c11, c13, c17, c21, c25⟩ := RB.of hcl
  have hR := run_rw hcl
  have hwo := whoOf_any w1 r
  clear q1 hK0 k0 c0 c1 c2 c3 c4 c6 c7 c11 c13 c21
  go_wp2_with (first | (refine wpList_load_run rfl 50 _ rfl ⟨w.heap.size, 0, none⟩ rfl _ hR ?_; clear hR) | (go_at_call 53; refine hwo.mono ?_; clear hwo; rintro e w2 ⟨rfl, k2⟩; have hK2 := hK1.keep (by decide) k2 (fun e => e); have k2' := k1.trans (k2.mono (T := fun k => k = kb) (fun _ _ e => e.elim)); replace c5 := k2.cell c5 (fun e => e); replace c8 := k2.cell c8 (fun e => e); replace c17 := k2.cell c17 (fun e => e); replace c25 := k2.cell c25 (fun e => e)) | (refine wpList_store_ib3 rfl rfl _ _ rfl kb (th * 5 + 1) rfl _ _ _ rfl hK2 (by omega) ?_; intro w3 hK3 k3 hz3; clear hz3; replace c5 := k3.cell c5 (fun e => hne e.symm); replace c8 := k3.cell c8 (fun e => hne e.symm); replace c17 := k3.cell c17 (fun e => hne e.symm); replace c25 := k3.cell c25 (fun e => hne e.symm); replace k3 := k2'.trans k3))
  have d4 : w3.cell? ⟨kb, th * 5 + 4, none⟩ = some (.int .i64 (f (th * 5 + 4))) := by
    have := hK3.c (th * 5 + 4) (by omega)
    rwa [up_other (by omega), up_other (by omega), up_other (by omega)] at this
  rw [htl] at c17
  have hNE3 : Nonempty (KS w3) := ⟨⟨w3, Keeps.refl _ w3⟩⟩
  have q8 := ks_cell c8
  have q17 := ks_cell c17
  have q4 := ks_cell d4
  clear htl
  cases tl
  · cases dz
    · cases fz
      all_goals
        refine wp_region_ks (by kernel_rfl) (by kernel_rfl) ?_
        (repeat (go_big_quiet_step (fail)))
        refine wpQuiet_nil ?_
        rintro _ ⟨u, rfl⟩
        replace hK3 := hK3.keep (by decide) u.property (fun e => e)
        replace k3 := k3.trans (u.property.mono (T := fun k => k = kb) (fun _ _ e => e.elim))
        replace c25 := u.property.cell c25 (fun e => e)
        replace d4 := u.property.cell d4 (fun e => e)
        clear q8 q17 q4 hNE3
        generalize u.val = w4 at *
        clear c17
        have c17 := c25
        go_wp2_with (first | (go_at_call 29; refine (hdc _).mono ?_; rintro e w9 ⟨rfl, ew⟩; subst w9) | (refine wpList_store_ib rfl rfl _ _ rfl kb (th * 5) rfl _ rfl hK3 (by omega) ?_; intro wn hn kn zn; clear zn; replace hK3 := hn; clear hn; replace c17 := kn.cell c17 (fun e => hne e.symm); replace c25 := kn.cell c25 (fun e => hne e.symm); replace k3 := k3.trans kn; clear kn))
        go_end0
        exact ⟨rfl, hK3, k3⟩
    · refine wp_region_ks (by kernel_rfl) (by kernel_rfl) ?_
      (repeat (go_big_quiet_step (fail)))
      refine wpQuiet_nil ?_
      rintro _ ⟨u, rfl⟩
      replace hK3 := hK3.keep (by decide) u.property (fun e => e)
      replace k3 := k3.trans (u.property.mono (T := fun k => k = kb) (fun _ _ e => e.elim))
      replace c25 := u.property.cell c25 (fun e => e)
      replace d4 := u.property.cell d4 (fun e => e)
      clear q8 q17 q4 hNE3
      generalize u.val = w4 at *
      clear c17
      have c17 := c25
      go_wp2_with (first | (go_at_call 29; refine (hdc _).mono ?_; rintro e w9 ⟨rfl, ew⟩; subst w9) | (refine wpList_store_ib rfl rfl _ _ rfl kb (th * 5) rfl _ rfl hK3 (by omega) ?_; intro wn hn kn zn; clear zn; replace hK3 := hn; clear hn; replace c17 := kn.cell c17 (fun e => hne e.symm); replace c25 := kn.cell c25 (fun e => hne e.symm); replace k3 := k3.trans kn; clear kn))
      go_end0
      exact ⟨rfl, hK3, k3⟩
  cases z2
  · cases dz
    · cases fz
      all_goals
        refine wp_region_ks (by kernel_rfl) (by kernel_rfl) ?_
        (repeat (go_big_quiet_step (fail)))
        refine wpQuiet_nil ?_
        rintro _ ⟨u, rfl⟩
        replace hK3 := hK3.keep (by decide) u.property (fun e => e)
        replace k3 := k3.trans (u.property.mono (T := fun k => k = kb) (fun _ _ e => e.elim))
        replace c25 := u.property.cell c25 (fun e => e)
        replace d4 := u.property.cell d4 (fun e => e)
        clear q8 q17 q4 hNE3
        generalize u.val = w4 at *
        clear c17
        have c17 := c25
        go_wp2_with (first | (go_at_call 29; refine (hdc _).mono ?_; rintro e w9 ⟨rfl, ew⟩; subst w9) | (refine wpList_store_ib rfl rfl _ _ rfl kb (th * 5) rfl _ rfl hK3 (by omega) ?_; intro wn hn kn zn; clear zn; replace hK3 := hn; clear hn; replace c17 := kn.cell c17 (fun e => hne e.symm); replace c25 := kn.cell c25 (fun e => hne e.symm); replace k3 := k3.trans kn; clear kn))
        go_end0
        exact ⟨rfl, hK3, k3⟩
    · refine wp_region_ks (by kernel_rfl) (by kernel_rfl) ?_
      (repeat (go_big_quiet_step (fail)))
      refine wpQuiet_nil ?_
      rintro _ ⟨u, rfl⟩
      replace hK3 := hK3.keep (by decide) u.property (fun e => e)
      replace k3 := k3.trans (u.property.mono (T := fun k => k = kb) (fun _ _ e => e.elim))
      replace c25 := u.property.cell c25 (fun e => e)
      replace d4 := u.property.cell d4 (fun e => e)
      clear q8 q17 q4 hNE3
      generalize u.val = w4 at *
      clear c17
      have c17 := c25
      go_wp2_with (first | (go_at_call 29; refine (hdc _).mono ?_; rintro e w9 ⟨rfl, ew⟩; subst w9) | (refine wpList_store_ib rfl rfl _ _ rfl kb (th * 5) rfl _ rfl hK3 (by omega) ?_; intro wn hn kn zn; clear zn; replace hK3 := hn; clear hn; replace c17 := kn.cell c17 (fun e => hne e.symm); replace c25 := kn.cell c25 (fun e => hne e.symm); replace k3 := k3.trans kn; clear kn))
      go_end0
      exact ⟨rfl, hK3, k3⟩
  · cases dz
    · cases fz
      all_goals
        refine wp_region_ks (by kernel_rfl) (by kernel_rfl) ?_
        (repeat (go_big_quiet_step (fail)))
        refine wpQuiet_nil ?_
        rintro _ ⟨u, rfl⟩
        replace hK3 := hK3.keep (by decide) u.property (fun e => e)
        replace k3 := k3.trans (u.property.mono (T := fun k => k = kb) (fun _ _ e => e.elim))
        replace c25 := u.property.cell c25 (fun e => e)
        replace d4 := u.property.cell d4 (fun e => e)
        clear q8 q17 q4 hNE3
        generalize u.val = w4 at *
        clear c17
        have c17 := c25
        go_wp2_with (first | (go_at_call 29; refine (hdc _).mono ?_; rintro e w9 ⟨rfl, ew⟩; subst w9) | (refine wpList_store_ib rfl rfl _ _ rfl kb (th * 5) rfl _ rfl hK3 (by omega) ?_; intro wn hn kn zn; clear zn; replace hK3 := hn; clear hn; replace c17 := kn.cell c17 (fun e => hne e.symm); replace c25 := kn.cell c25 (fun e => hne e.symm); replace k3 := k3.trans kn; clear kn) | (refine wpList_store_ib rfl rfl _ _ rfl kb (th * 5 + 4) rfl _ rfl hK3 (by omega) ?_; intro wn hn kn zn; clear zn; replace hK3 := hn; clear hn; replace c17 := kn.cell c17 (fun e => hne e.symm); replace c25 := kn.cell c25 (fun e => hne e.symm); replace k3 := k3.trans kn; clear kn))
        go_end0
        exact ⟨rfl, hK3, k3⟩
    · refine wp_region_ks (by kernel_rfl) (by kernel_rfl) ?_
      (repeat (go_big_quiet_step (fail)))
      refine wpQuiet_nil ?_
      rintro _ ⟨u, rfl⟩
      replace hK3 := hK3.keep (by decide) u.property (fun e => e)
      replace k3 := k3.trans (u.property.mono (T := fun k => k = kb) (fun _ _ e => e.elim))
      replace c25 := u.property.cell c25 (fun e => e)
      replace d4 := u.property.cell d4 (fun e => e)
      clear q8 q17 q4 hNE3
      generalize u.val = w4 at *
      clear c17
      have c17 := c25
      go_wp2_with (first | (go_at_call 29; refine (hdc _).mono ?_; rintro e w9 ⟨rfl, ew⟩; subst w9) | (refine wpList_store_ib rfl rfl _ _ rfl kb (th * 5) rfl _ rfl hK3 (by omega) ?_; intro wn hn kn zn; clear zn; replace hK3 := hn; clear hn; replace c17 := kn.cell c17 (fun e => hne e.symm); replace c25 := kn.cell c25 (fun e => hne e.symm); replace k3 := k3.trans kn; clear kn) | (refine wpList_store_ib rfl rfl _ _ rfl kb (th * 5 + 4) rfl _ rfl hK3 (by omega) ?_; intro wn hn kn zn; clear zn; replace hK3 := hn; clear hn; replace c17 := kn.cell c17 (fun e => hne e.symm); replace c25 := kn.cell c25 (fun e => hne e.symm); replace k3 := k3.trans kn; clear kn))
      go_end0
      exact ⟨rfl, hK3, k3⟩
set_option maxHeartbeats 1000000 in
set_option maxRecDepth 100000 in
theorem follow_17 (w : World) {kb : Nat} {f : Nat → Int} (hK : IB w kb 32 f) (r : Rw) (th : Nat) (hk : r.kind = 17) (htl : r.told = false) (hfn : r.fin = 0) (et : r.thread = (th : Int)) (ht : th < 6) (hB : ∀ i, i < 32 → f i + 1 ≤ 9223372036854775807 ∧ -9223372036854775808 ≤ f i) : Calls Try.prog 39 #[.pointer (some ⟨kb, 0, none⟩), .agg r.cells.toArray] w fun e w' => e = .returned (.tuple #[]) ∧ IB w' kb 32 (folP f r th) ∧ Keeps (fun k => k = kb) w w' := by
  obtain ⟨w0, e0, k0, hb, hz0⟩ := rw_box w r
  have hK0 := hK.keep (by decide) k0 (fun e => e)
  have hne : ¬ kb = w.heap.size := fun e => by have := hK.lt (by decide); omega
  have k0 := k0.mono (T := fun k => k = kb) (fun _ _ e => e.elim)
  obtain ⟨hcl, c0, c1, c2, c3, c4, c5, c6, c7, c8, c11, c13, c17, c21, c25⟩ := hb
  rw [et] at c1
  have i1 : (0 : Int) ≤ (th : Int) := by omega
  have i2 : (th : Int) < 6 := by omega
  have q1 := ks_cell c1
  have hNE : Nonempty (KS w0) := ⟨⟨w0, Keeps.refl _ w0⟩⟩
  rw [hk] at c5
  have hF : folP f r th = up (up (up (up f (th * 5 + 1) r.job) (th * 5 + 2) r.try_) (th * 5 + 3) r.no) (th * 5) 0 := by
    unfold folP fol3 fol2 fol1
    rw [hk, htl, hfn]
    rfl
  rw [hF]
  clear hF
  have v30 : IntKind.i64.wrap (f 30 + 1) = f 30 + 1 := by have := hB 30 (by omega); rw [IntKind.wrap_i64]; omega
  have v31 : IntKind.i64.wrap (f 31 + 1) = f 31 + 1 := by have := hB 31 (by omega); rw [IntKind.wrap_i64]; omega
  have hdc : ∀ W, Calls Try.prog 29 #[.int .i64 0] W fun e w' => e = .returned (.bool false) ∧ w' = W := fun W => decides_any W 0
  clear hB
  go_enter Try.func39, Try.ntmps39
  refine wp_seq_k (fun KK hKK => ?_)
  have hKH : Hid _ := hKK
  clear hKK
  go_wp2_with fail
  refine hKH.out _ _ ?_
  clear hKH KK
  rw [← e0]
  clear e0
  go_wp2_with fail
  refine wp_region_ks (by kernel_rfl) (by kernel_rfl) ?_
  (repeat (go_big_quiet_step (fail)))
  refine wpQuiet_nil ?_
  rintro _ ⟨u, rfl⟩
  have hcl := hcl.keep (by show 0 < 26; decide) u.property (fun e => e)
  have hK1 := hK0.keep (by decide) u.property (fun e => e)
  have k1 := k0.trans (u.property.mono (T := fun k => k = kb) (fun _ _ e => e.elim))
  generalize u.val = w1 at *
  obtain ⟨-, c0, c1, c2, c3, c4, c5, c6, c7, c8, c11, c13, c17, c21, c25⟩ := RB.of hcl
  rw [hk] at c5
  rw [htl] at c17
  rw [hfn] at c25
  have hR := run_rw hcl
  have hwo := whoOf_any w1 r
  clear q1 hK0 k0 c0 c1 c2 c3 c4 c6 c7 c11 c13 c21
  go_wp2_with (first | (refine wpList_load_run rfl 50 _ rfl ⟨w.heap.size, 0, none⟩ rfl _ hR ?_; clear hR) | (go_at_call 53; refine hwo.mono ?_; clear hwo; rintro e w2 ⟨rfl, k2⟩; have hK2 := hK1.keep (by decide) k2 (fun e => e); have k2' := k1.trans (k2.mono (T := fun k => k = kb) (fun _ _ e => e.elim)); replace c5 := k2.cell c5 (fun e => e); replace c8 := k2.cell c8 (fun e => e); replace c17 := k2.cell c17 (fun e => e); replace c25 := k2.cell c25 (fun e => e)) | (refine wpList_store_ib3 rfl rfl _ _ rfl kb (th * 5 + 1) rfl _ _ _ rfl hK2 (by omega) ?_; intro w3 hK3 k3 hz3; clear hz3; replace c5 := k3.cell c5 (fun e => hne e.symm); replace c8 := k3.cell c8 (fun e => hne e.symm); replace c17 := k3.cell c17 (fun e => hne e.symm); replace c25 := k3.cell c25 (fun e => hne e.symm); replace k3 := k2'.trans k3; have d30 := hK3.c 30 (by decide); (repeat rw [up_other (by omega)] at d30); have d31 := hK3.c 31 (by decide); (repeat rw [up_other (by omega)] at d31)) | (refine wpList_store_ib rfl rfl _ _ rfl kb (th * 5) rfl _ rfl hK3 (by omega) ?_; intro wn hn kn zn; clear zn; replace hK3 := hn; clear hn; replace c17 := kn.cell c17 (fun e => hne e.symm); replace c25 := kn.cell c25 (fun e => hne e.symm); replace k3 := k3.trans kn; clear kn; have d31 := hK3.c 31 (by decide); (repeat rw [up_other (by omega)] at d31)))
  have q17 := ks_cell c17
  have hNE3 := ks_ne c17
  refine wp_region_ks (by kernel_rfl) (by kernel_rfl) ?_
  (repeat (go_big_quiet_step (fail)))
  refine wpQuiet_nil ?_
  rintro _ ⟨u, rfl⟩
  replace hK3 := hK3.keep (by decide) u.property (fun e => e)
  replace k3 := k3.trans (u.property.mono (T := fun k => k = kb) (fun _ _ e => e.elim))
  replace c25 := u.property.cell c25 (fun e => e)
  generalize u.val = w4 at *
  go_wp2_with (first | (go_at_call 29; refine (hdc _).mono ?_; rintro e w9 ⟨rfl, ew⟩; subst w9))
  go_end0
  exact ⟨rfl, hK3, k3⟩
set_option maxHeartbeats 1000000 in
set_option maxRecDepth 100000 in
theorem follow_2 (w : World) {kb : Nat} {f : Nat → Int} (hK : IB w kb 32 f) (r : Rw) (th : Nat) (hk : r.kind = 2) (htl : r.told = false) (hfn : r.fin = 0) (et : r.thread = (th : Int)) (ht : th < 6) (hB : ∀ i, i < 32 → f i + 1 ≤ 9223372036854775807 ∧ -9223372036854775808 ≤ f i) : Calls Try.prog 39 #[.pointer (some ⟨kb, 0, none⟩), .agg r.cells.toArray] w fun e w' => e = .returned (.tuple #[]) ∧ IB w' kb 32 (folP f r th) ∧ Keeps (fun k => k = kb) w w' := by
  obtain ⟨w0, e0, k0, hb, hz0⟩ := rw_box w r
  have hK0 := hK.keep (by decide) k0 (fun e => e)
  have hne : ¬ kb = w.heap.size := fun e => by have := hK.lt (by decide); omega
  have k0 := k0.mono (T := fun k => k = kb) (fun _ _ e => e.elim)
  obtain ⟨hcl, c0, c1, c2, c3, c4, c5, c6, c7, c8, c11, c13, c17, c21, c25⟩ := hb
  rw [et] at c1
  have i1 : (0 : Int) ≤ (th : Int) := by omega
  have i2 : (th : Int) < 6 := by omega
  have q1 := ks_cell c1
  have hNE : Nonempty (KS w0) := ⟨⟨w0, Keeps.refl _ w0⟩⟩
  rw [hk] at c5
  have hF : folP f r th = up (up (up (up (up (up f (th * 5 + 1) r.job) (th * 5 + 2) r.try_) (th * 5 + 3) r.no) 31 (f 31 + 1)) (th * 5) 1) (th * 5 + 4) 0 := by
    unfold folP fol3 fol2 fol1
    rw [hk, htl, hfn]
    rfl
  rw [hF]
  clear hF
  have v30 : IntKind.i64.wrap (f 30 + 1) = f 30 + 1 := by have := hB 30 (by omega); rw [IntKind.wrap_i64]; omega
  have v31 : IntKind.i64.wrap (f 31 + 1) = f 31 + 1 := by have := hB 31 (by omega); rw [IntKind.wrap_i64]; omega
  have hdc : ∀ W, Calls Try.prog 29 #[.int .i64 0] W fun e w' => e = .returned (.bool false) ∧ w' = W := fun W => decides_any W 0
  clear hB
  go_enter Try.func39, Try.ntmps39
  refine wp_seq_k (fun KK hKK => ?_)
  have hKH : Hid _ := hKK
  clear hKK
  go_wp2_with fail
  refine hKH.out _ _ ?_
  clear hKH KK
  rw [← e0]
  clear e0
  go_wp2_with fail
  refine wp_region_ks (by kernel_rfl) (by kernel_rfl) ?_
  (repeat (go_big_quiet_step (fail)))
  refine wpQuiet_nil ?_
  rintro _ ⟨u, rfl⟩
  have hcl := hcl.keep (by show 0 < 26; decide) u.property (fun e => e)
  have hK1 := hK0.keep (by decide) u.property (fun e => e)
  have k1 := k0.trans (u.property.mono (T := fun k => k = kb) (fun _ _ e => e.elim))
  generalize u.val = w1 at *
  obtain ⟨-, c0, c1, c2, c3, c4, c5, c6, c7, c8, c11, c13, c17, c21, c25⟩ := RB.of hcl
  rw [hk] at c5
  rw [htl] at c17
  rw [hfn] at c25
  have hR := run_rw hcl
  have hwo := whoOf_any w1 r
  clear q1 hK0 k0 c0 c1 c2 c3 c4 c6 c7 c11 c13 c21
  go_wp2_with (first | (refine wpList_load_run rfl 50 _ rfl ⟨w.heap.size, 0, none⟩ rfl _ hR ?_; clear hR) | (go_at_call 53; refine hwo.mono ?_; clear hwo; rintro e w2 ⟨rfl, k2⟩; have hK2 := hK1.keep (by decide) k2 (fun e => e); have k2' := k1.trans (k2.mono (T := fun k => k = kb) (fun _ _ e => e.elim)); replace c5 := k2.cell c5 (fun e => e); replace c8 := k2.cell c8 (fun e => e); replace c17 := k2.cell c17 (fun e => e); replace c25 := k2.cell c25 (fun e => e)) | (refine wpList_store_ib3 rfl rfl _ _ rfl kb (th * 5 + 1) rfl _ _ _ rfl hK2 (by omega) ?_; intro w3 hK3 k3 hz3; clear hz3; replace c5 := k3.cell c5 (fun e => hne e.symm); replace c8 := k3.cell c8 (fun e => hne e.symm); replace c17 := k3.cell c17 (fun e => hne e.symm); replace c25 := k3.cell c25 (fun e => hne e.symm); replace k3 := k2'.trans k3; have d30 := hK3.c 30 (by decide); (repeat rw [up_other (by omega)] at d30); have d31 := hK3.c 31 (by decide); (repeat rw [up_other (by omega)] at d31)) | (refine wpList_store_ib rfl rfl _ _ rfl kb (31) rfl _ rfl hK3 (by omega) ?_; intro wn hn kn zn; clear zn; replace hK3 := hn; clear hn; replace c17 := kn.cell c17 (fun e => hne e.symm); replace c25 := kn.cell c25 (fun e => hne e.symm); replace k3 := k3.trans kn; clear kn; have d31 := hK3.c 31 (by decide); (repeat rw [up_other (by omega)] at d31)) | (refine wpList_store_ib rfl rfl _ _ rfl kb (th * 5) rfl _ rfl hK3 (by omega) ?_; intro wn hn kn zn; clear zn; replace hK3 := hn; clear hn; replace c17 := kn.cell c17 (fun e => hne e.symm); replace c25 := kn.cell c25 (fun e => hne e.symm); replace k3 := k3.trans kn; clear kn; have d31 := hK3.c 31 (by decide); (repeat rw [up_other (by omega)] at d31)) | (refine wpList_store_ib rfl rfl _ _ rfl kb (th * 5 + 4) rfl _ rfl hK3 (by omega) ?_; intro wn hn kn zn; clear zn; replace hK3 := hn; clear hn; replace c17 := kn.cell c17 (fun e => hne e.symm); replace c25 := kn.cell c25 (fun e => hne e.symm); replace k3 := k3.trans kn; clear kn; have d31 := hK3.c 31 (by decide); (repeat rw [up_other (by omega)] at d31)))
  have q17 := ks_cell c17
  have hNE3 := ks_ne c17
  refine wp_region_ks (by kernel_rfl) (by kernel_rfl) ?_
  (repeat (go_big_quiet_step (fail)))
  refine wpQuiet_nil ?_
  rintro _ ⟨u, rfl⟩
  replace hK3 := hK3.keep (by decide) u.property (fun e => e)
  replace k3 := k3.trans (u.property.mono (T := fun k => k = kb) (fun _ _ e => e.elim))
  replace c25 := u.property.cell c25 (fun e => e)
  generalize u.val = w4 at *
  go_wp2_with (first | (go_at_call 29; refine (hdc _).mono ?_; rintro e w9 ⟨rfl, ew⟩; subst w9))
  go_end0
  exact ⟨rfl, hK3, k3⟩
set_option maxHeartbeats 1000000 in
set_option maxRecDepth 100000 in
theorem follow_1 (w : World) {kb : Nat} {f : Nat → Int} (hK : IB w kb 32 f) (r : Rw) (th : Nat) (hk : r.kind = 1) (htl : r.told = false) (hfn : r.fin = 0) (et : r.thread = (th : Int)) (ht : th < 6) (hB : ∀ i, i < 32 → f i + 1 ≤ 9223372036854775807 ∧ -9223372036854775808 ≤ f i) : Calls Try.prog 39 #[.pointer (some ⟨kb, 0, none⟩), .agg r.cells.toArray] w fun e w' => e = .returned (.tuple #[]) ∧ IB w' kb 32 (folP f r th) ∧ Keeps (fun k => k = kb) w w' := by
  obtain ⟨w0, e0, k0, hb, hz0⟩ := rw_box w r
  have hK0 := hK.keep (by decide) k0 (fun e => e)
  have hne : ¬ kb = w.heap.size := fun e => by have := hK.lt (by decide); omega
  have k0 := k0.mono (T := fun k => k = kb) (fun _ _ e => e.elim)
  obtain ⟨hcl, c0, c1, c2, c3, c4, c5, c6, c7, c8, c11, c13, c17, c21, c25⟩ := hb
  rw [et] at c1
  have i1 : (0 : Int) ≤ (th : Int) := by omega
  have i2 : (th : Int) < 6 := by omega
  have q1 := ks_cell c1
  have hNE : Nonempty (KS w0) := ⟨⟨w0, Keeps.refl _ w0⟩⟩
  rw [hk] at c5
  have hF : folP f r th = up (up (up (up (up (up (up f (th * 5 + 1) r.job) (th * 5 + 2) r.try_) (th * 5 + 3) r.no) 30 (f 30 + 1)) 31 (f 31 + 1)) (th * 5) 1) (th * 5 + 4) 0 := by
    unfold folP fol3 fol2 fol1
    rw [hk, htl, hfn]
    rfl
  rw [hF]
  clear hF
  have v30 : IntKind.i64.wrap (f 30 + 1) = f 30 + 1 := by have := hB 30 (by omega); rw [IntKind.wrap_i64]; omega
  have v31 : IntKind.i64.wrap (f 31 + 1) = f 31 + 1 := by have := hB 31 (by omega); rw [IntKind.wrap_i64]; omega
  have hdc : ∀ W, Calls Try.prog 29 #[.int .i64 0] W fun e w' => e = .returned (.bool false) ∧ w' = W := fun W => decides_any W 0
  clear hB
  go_enter Try.func39, Try.ntmps39
  refine wp_seq_k (fun KK hKK => ?_)
  have hKH : Hid _ := hKK
  clear hKK
  go_wp2_with fail
  refine hKH.out _ _ ?_
  clear hKH KK
  rw [← e0]
  clear e0
  go_wp2_with fail
  refine wp_region_ks (by kernel_rfl) (by kernel_rfl) ?_
  (repeat (go_big_quiet_step (fail)))
  refine wpQuiet_nil ?_
  rintro _ ⟨u, rfl⟩
  have hcl := hcl.keep (by show 0 < 26; decide) u.property (fun e => e)
  have hK1 := hK0.keep (by decide) u.property (fun e => e)
  have k1 := k0.trans (u.property.mono (T := fun k => k = kb) (fun _ _ e => e.elim))
  generalize u.val = w1 at *
  obtain ⟨-, c0, c1, c2, c3, c4, c5, c6, c7, c8, c11, c13, c17, c21, c25⟩ := RB.of hcl
  rw [hk] at c5
  rw [htl] at c17
  rw [hfn] at c25
  have hR := run_rw hcl
  have hwo := whoOf_any w1 r
  clear q1 hK0 k0 c0 c1 c2 c3 c4 c6 c7 c11 c13 c21
  go_wp2_with (first | (refine wpList_load_run rfl 50 _ rfl ⟨w.heap.size, 0, none⟩ rfl _ hR ?_; clear hR) | (go_at_call 53; refine hwo.mono ?_; clear hwo; rintro e w2 ⟨rfl, k2⟩; have hK2 := hK1.keep (by decide) k2 (fun e => e); have k2' := k1.trans (k2.mono (T := fun k => k = kb) (fun _ _ e => e.elim)); replace c5 := k2.cell c5 (fun e => e); replace c8 := k2.cell c8 (fun e => e); replace c17 := k2.cell c17 (fun e => e); replace c25 := k2.cell c25 (fun e => e)) | (refine wpList_store_ib3 rfl rfl _ _ rfl kb (th * 5 + 1) rfl _ _ _ rfl hK2 (by omega) ?_; intro w3 hK3 k3 hz3; clear hz3; replace c5 := k3.cell c5 (fun e => hne e.symm); replace c8 := k3.cell c8 (fun e => hne e.symm); replace c17 := k3.cell c17 (fun e => hne e.symm); replace c25 := k3.cell c25 (fun e => hne e.symm); replace k3 := k2'.trans k3; have d30 := hK3.c 30 (by decide); (repeat rw [up_other (by omega)] at d30); have d31 := hK3.c 31 (by decide); (repeat rw [up_other (by omega)] at d31)) | (refine wpList_store_ib rfl rfl _ _ rfl kb (30) rfl _ rfl hK3 (by omega) ?_; intro wn hn kn zn; clear zn; replace hK3 := hn; clear hn; replace c17 := kn.cell c17 (fun e => hne e.symm); replace c25 := kn.cell c25 (fun e => hne e.symm); replace k3 := k3.trans kn; clear kn; have d31 := hK3.c 31 (by decide); (repeat rw [up_other (by omega)] at d31)) | (refine wpList_store_ib rfl rfl _ _ rfl kb (31) rfl _ rfl hK3 (by omega) ?_; intro wn hn kn zn; clear zn; replace hK3 := hn; clear hn; replace c17 := kn.cell c17 (fun e => hne e.symm); replace c25 := kn.cell c25 (fun e => hne e.symm); replace k3 := k3.trans kn; clear kn; have d31 := hK3.c 31 (by decide); (repeat rw [up_other (by omega)] at d31)) | (refine wpList_store_ib rfl rfl _ _ rfl kb (th * 5) rfl _ rfl hK3 (by omega) ?_; intro wn hn kn zn; clear zn; replace hK3 := hn; clear hn; replace c17 := kn.cell c17 (fun e => hne e.symm); replace c25 := kn.cell c25 (fun e => hne e.symm); replace k3 := k3.trans kn; clear kn; have d31 := hK3.c 31 (by decide); (repeat rw [up_other (by omega)] at d31)) | (refine wpList_store_ib rfl rfl _ _ rfl kb (th * 5 + 4) rfl _ rfl hK3 (by omega) ?_; intro wn hn kn zn; clear zn; replace hK3 := hn; clear hn; replace c17 := kn.cell c17 (fun e => hne e.symm); replace c25 := kn.cell c25 (fun e => hne e.symm); replace k3 := k3.trans kn; clear kn; have d31 := hK3.c 31 (by decide); (repeat rw [up_other (by omega)] at d31)))
  have q17 := ks_cell c17
  have hNE3 := ks_ne c17
  refine wp_region_ks (by kernel_rfl) (by kernel_rfl) ?_
  (repeat (go_big_quiet_step (fail)))
  refine wpQuiet_nil ?_
  rintro _ ⟨u, rfl⟩
  replace hK3 := hK3.keep (by decide) u.property (fun e => e)
  replace k3 := k3.trans (u.property.mono (T := fun k => k = kb) (fun _ _ e => e.elim))
  replace c25 := u.property.cell c25 (fun e => e)
  generalize u.val = w4 at *
  go_wp2_with (first | (go_at_call 29; refine (hdc _).mono ?_; rintro e w9 ⟨rfl, ew⟩; subst w9))
  go_end0
  exact ⟨rfl, hK3, k3⟩
end Go.Proofs.Ytmnmphkkcabkiaa

