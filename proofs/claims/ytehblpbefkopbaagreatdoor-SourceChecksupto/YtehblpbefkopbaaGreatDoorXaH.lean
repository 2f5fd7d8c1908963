import Derived.Test.YtehblpbefkopbaaGreatDoorXaG
namespace Go.Proofs.YtehblpbefkopbaaGreatDoor
open Go.RowKit Go.ChangeShapes Go.WideShapes Go.ChangeAt
attribute [local go_sem] Oper.semAt_some run_store_nf run_store_f
theorem wp_loadK {P : Program} {o : Oper} {a : Act} {w : World} {K : Act → World → Prop} {Q : Exit → Act → World → Prop} (ty : TypeId) (x : Operand) (ho : o.op = .load ty x) (p : Addr) (hx : a.eval x = .pointer (some p)) (v : Value) (hr : (loadVar ty p).run P w = .ok v w) (h : K (a.put o.dst v) w) : o.wp P a w K Q := by
  unfold Oper.wp execOp
  simp only [ho, hx, Instr.loadAt, Instr.sureAddr, Sem.run_bind, Sem.run_pure, Result.andThen_ok, hr]
  exact h
theorem wp_storeK {P : Program} {o : Oper} {a : Act} {w w' : World} {K : Act → World → Prop} {Q : Exit → Act → World → Prop} (ty : TypeId) (x y : Operand) (ho : o.op = .store ty x y) (p : Addr) (hx : a.eval x = .pointer (some p)) (v : Value) (hy : a.eval y = v) (hr : (storeVar ty p v).run P w = .ok () w') (h : K (a.put o.dst undef) w') : o.wp P a w K Q := by
  unfold Oper.wp execOp
  simp only [ho, hx, hy, Instr.storeAt, Instr.sureAddr, Sem.run_bind, Sem.run_pure, Result.andThen_ok, hr]
  exact h
theorem wp_call1 (f : Nat) {o : Oper} {a : Act} {w : World} {K : Act → World → Prop} {Q : Exit → Act → World → Prop} (x : Tmp) {t1 : TypeId} (ho : o.op = .call { callee := .value (.func f), args := #[.tmp x], argTypes := #[t1] }) (v1 : Value) (hx : a.tmps[x]?.getD undef = v1) (hcf : ∀ args w, (callFunc f args).run Tryz.prog w = .ok (.enter f args) w) (h : Calls Tryz.prog f #[v1] w (fun e w' => ∃ v, e = .returned v ∧ K (a.put o.dst v) w')) : o.wp Tryz.prog a w K Q := by
  unfold Oper.wp execOp
  simp only [ho]
  go_simp
  refine h.mono ?_
  rintro e w' ⟨v, rfl, h⟩
  exact h
theorem run_load_s {w : World} {p : Addr} {s : ByteArray} (h : w.cell? p = some (.string s)) : (loadVar 9 p).run Tryz.prog w = .ok (.string s) w := by
  go_simp
theorem run_store_s {w : World} {p : Addr} (h : (w.cell? p).isSome = true) (hz : w.frozen? p = false) (s : ByteArray) : (storeVar 9 p (.string s)).run Tryz.prog w = .ok () (w.setCell p (.string s)) := by
  obtain ⟨u, hu⟩ := Option.isSome_iff_exists.1 h
  go_simp
set_option maxHeartbeats 1000000 in
set_option maxRecDepth 100000 in
theorem next_any {w : World} {r : Nat} {T R : Bs} (h : RdM w r T R) : Calls Tryz.prog 32 #[.pointer (some ⟨r, 0, none⟩)] w fun e w' => (badB (adv R) = false → e = .returned (.tuple #[]) ∧ RdM w' r T (adv R) ∧ Keeps (fun k => k = r) w w') ∧ (badB (adv R) = true → e = panT T (adv R) ∧ Keeps (fun k => k = r) w w') := by
  have kD : Keeps (fun _ => False) w w.drew := (Keeps.refl _ w).drew
  have cD := h.c.keep (by show 0 < 3; decide) kD (fun e => e)
  have y1d := cD.c 1 _ rfl
  have y2d := cD.c 2 _ rfl
  have hsz := bs_size R
  have hex := ext_bs R (tok R).length R.length
  have hkz := bs_size (tok R)
  have hse : (bs R).extract (bs (tok R)).size (bs R).size = bs (R.drop (tok R).length) := by rw [bs_size, bs_size, hex, List.take_length]
  have hle : (bs (tok R)).size ≤ (bs R).size := by rw [bs_size, bs_size]; exact tok_len R
  have hle2 : ((bs (tok R)).size : Int) ≤ ((bs R).size : Int) := by omega
  clear hsz hkz
  have hrl := h.rl
  have hG : SG w.drew := h.g.keep kD (fun _ _ e => e)
  have hSp := spoken_any (R.drop (tok R).length) (by rw [List.length_drop]; omega) hG
  have hlow := h.low
  have hr12 : ∀ i, i < 12 → ¬ i = r := fun i hi e => by omega
  have hsA : adv R <:+ T := (adv_suf R).trans h.suf
  have hTl := h.len
  have hAl : (adv R).length ≤ 32768 := Nat.le_trans hsA.length_le hTl
  have hFi := fun W (hg : SG W) => first_any (adv R) hAl hg
  rw [show spk false (R.drop (tok R).length) = adv R from rfl] at hSp
  have hGw := h.g
  have hbad : badB (adv R) = ((tok (adv R)).isEmpty && !(adv R).isEmpty) := rfl
  have hKt := bs_toList (tok (adv R))
  have hAt := bs_toList (adv R)
  have HA : Hid (adv R = adv R) := rfl
  clear hex
  generalize R.drop (tok R).length = Nx at *
  generalize hA : adv R = A at *
  generalize tok R = K at *
  have hKA : Hid (tok A = tok A) := rfl
  have BODY : ∀ Q : Ending → World → Prop, (∀ W3, RdM W3 r T A → Keeps (fun k => k = r) w W3 → badB A = false → Q (.returned (.tuple #[])) W3) → (∀ W3, Keeps (fun k => k = r) w W3 → badB A = true → Q (panT T A) W3) → Calls Tryz.prog 32 #[.pointer (some ⟨r, 0, none⟩)] w Q := by
    intro Q q1 q2
    generalize hT : tok A = KA at *
    go_enter Tryz.func32, Tryz.ntmps32
    go_wp2_with fail
    refine wp_region_held_drew (S := fun W => W.cell? ⟨r, 2, none⟩ = some (.string (bs K))) (by kernel_rfl) y2d (fun hHeld => ?_)
    refine wpAnyH_take (i := 0) (v := ?_) rfl (by kernel_rfl) (by kernel_rfl) (by kernel_rfl) (fun _ _ _ h => h) (Or.inl ⟨by rfl, ?_⟩) (by assumption) ?_
    rotate_left
    · intro wx hSw; clear hSw; go_simp <;> with_reducible rfl
    (try simp only [List.getElem_toArray]); (try simp only [List.getElem_cons_succ]); (try simp only [List.getElem_cons_zero]); (try simp only [Act.put]); (try simp only [List.setIfInBounds_toArray]); (repeat first | simp only [List.set_cons_succ] | simp only [List.set_cons_zero])
    refine wpAnyH_take (i := 1) (v := ?_) rfl (by kernel_rfl) (by kernel_rfl) (by kernel_rfl) (fun _ _ _ h => h) (Or.inl ⟨by rfl, ?_⟩) (by assumption) ?_
    rotate_left
    · intro wx hSw; clear hSw; go_simp <;> with_reducible rfl
    (try simp only [List.getElem_toArray]); (try simp only [List.getElem_cons_succ]); (try simp only [List.getElem_cons_zero]); (try simp only [Act.put]); (try simp only [List.setIfInBounds_toArray]); (repeat first | simp only [List.set_cons_succ] | simp only [List.set_cons_zero])
    refine wpAnyH_take (i := 2) (v := ?_) rfl (by kernel_rfl) (by kernel_rfl) (by kernel_rfl) (fun _ _ _ h => h) (Or.inl ⟨by rfl, ?_⟩) (by assumption) ?_
    rotate_left
    · intro wx hSw; clear hSw; go_simp <;> with_reducible rfl
    (try simp only [List.getElem_toArray]); (try simp only [List.getElem_cons_succ]); (try simp only [List.getElem_cons_zero]); (try simp only [Act.put]); (try simp only [List.setIfInBounds_toArray]); (repeat first | simp only [List.set_cons_succ] | simp only [List.set_cons_zero])
    refine wpAnyH_take (i := 3) (v := ?_) rfl (by kernel_rfl) (by kernel_rfl) (by kernel_rfl) (fun _ _ _ h => h) (Or.inl ⟨by rfl, ?_⟩) (by assumption) ?_
    rotate_left
    · intro wx hSw; clear hSw; go_simp <;> with_reducible rfl
    (try simp only [List.getElem_toArray]); (try simp only [List.getElem_cons_succ]); (try simp only [List.getElem_cons_zero]); (try simp only [Act.put]); (try simp only [List.setIfInBounds_toArray]); (repeat first | simp only [List.set_cons_succ] | simp only [List.set_cons_zero])
    refine wpAnyH_take (i := 5) (v := ?_) rfl (by kernel_rfl) (by kernel_rfl) (by kernel_rfl) (fun _ _ _ h => h) (Or.inl ⟨by rfl, ?_⟩) (by assumption) ?_
    rotate_left
    · intro wx hSw; clear hSw; go_simp <;> with_reducible rfl
    (try simp only [List.getElem_toArray]); (try simp only [List.getElem_cons_succ]); (try simp only [List.getElem_cons_zero]); (try simp only [Act.put]); (try simp only [List.setIfInBounds_toArray]); (repeat first | simp only [List.set_cons_succ] | simp only [List.set_cons_zero])
    refine wpAnyH_take (i := 6) (v := ?_) rfl (by kernel_rfl) (by kernel_rfl) (by kernel_rfl) (fun _ _ _ h => h) (Or.inl ⟨by rfl, ?_⟩) (by assumption) ?_
    rotate_left
    · intro wx hSw; clear hSw; go_simp <;> with_reducible rfl
    (try simp only [List.getElem_toArray]); (try simp only [List.getElem_cons_succ]); (try simp only [List.getElem_cons_zero]); (try simp only [Act.put]); (try simp only [List.setIfInBounds_toArray]); (repeat first | simp only [List.set_cons_succ] | simp only [List.set_cons_zero])
    refine wpAnyH_take (i := 7) (v := ?_) rfl (by kernel_rfl) (by kernel_rfl) (by kernel_rfl) (fun _ _ _ h => h) (Or.inl ⟨by rfl, ?_⟩) (by assumption) ?_
    rotate_left
    · intro wx hSw; clear hSw; go_simp <;> with_reducible rfl
    (try simp only [List.getElem_toArray]); (try simp only [List.getElem_cons_succ]); (try simp only [List.getElem_cons_zero]); (try simp only [Act.put]); (try simp only [List.setIfInBounds_toArray]); (repeat first | simp only [List.set_cons_succ] | simp only [List.set_cons_zero])
    refine wpAnyH_take (i := 8) (v := ?_) rfl (by kernel_rfl) (by kernel_rfl) (by kernel_rfl) (fun _ _ _ h => h) (Or.inl ⟨by rfl, ?_⟩) (by assumption) ?_
    rotate_left
    · intro wx hSw; have q5 := hSw; clear hSw; go_simp <;> with_reducible rfl
    (try simp only [List.getElem_toArray]); (try simp only [List.getElem_cons_succ]); (try simp only [List.getElem_cons_zero]); (try simp only [Act.put]); (try simp only [List.setIfInBounds_toArray]); (repeat first | simp only [List.set_cons_succ] | simp only [List.set_cons_zero])
    refine wpAnyH_take (i := 9) (v := ?_) rfl (by kernel_rfl) (by kernel_rfl) (by kernel_rfl) (fun _ _ _ h => h) (Or.inl ⟨by rfl, ?_⟩) (by assumption) ?_
    rotate_left
    · intro wx hSw; clear hSw; go_simp <;> with_reducible rfl
    (try simp only [List.getElem_toArray]); (try simp only [List.getElem_cons_succ]); (try simp only [List.getElem_cons_zero]); (try simp only [Act.put]); (try simp only [List.setIfInBounds_toArray]); (repeat first | simp only [List.set_cons_succ] | simp only [List.set_cons_zero])
    refine wpAnyH_one 4 (by kernel_rfl) rfl rfl ?_
    refine wp_loadK 9 _ rfl ⟨r, 1, none⟩ rfl _ (run_load_s y1d) ?_
    refine ⟨hHeld, fun _ => ?_⟩
    (try simp only [List.getElem_toArray]); (try simp only [List.getElem_cons_succ]); (try simp only [List.getElem_cons_zero]); (try simp only [Act.put]); (try simp only [List.setIfInBounds_toArray]); (repeat first | simp only [List.set_cons_succ] | simp only [List.set_cons_zero])
    refine wpAnyH_take (i := 10) (v := ?_) rfl (by kernel_rfl) (by kernel_rfl) (by kernel_rfl) (fun _ _ _ h => h) (Or.inl ⟨by rfl, ?_⟩) (by assumption) ?_
    rotate_left
    · intro wx hSw; clear hSw; go_simp <;> with_reducible rfl
    (try simp only [List.getElem_toArray]); (try simp only [List.getElem_cons_succ]); (try simp only [List.getElem_cons_zero]); (try simp only [Act.put]); (try simp only [List.setIfInBounds_toArray]); (repeat first | simp only [List.set_cons_succ] | simp only [List.set_cons_zero])
    refine wpAnyH_one 11 (by kernel_rfl) rfl rfl ?_
    refine wp_call1 44 _ rfl _ rfl (fun _ _ => rfl) (hSp.mono ?_)
    rintro e w1 ⟨rfl, k1⟩
    have c1 := cD.keep (by show 0 < 3; decide) k1 (fun e => e)
    have z2 := c1.c 2 _ rfl
    have z1 := c1.c 1 _ rfl
    have f1 := c1.z 1 (by show 1 < 3; decide)
    have K1 : Keeps (fun k => k = r) w (w1.setCell ⟨r, 1, none⟩ (.string (bs A))) := Keeps.setCell (S := fun k => k = r) (p := ⟨r, 1, none⟩) ((kD.trans k1).mono (fun _ _ e => e.elim)) (fun _ => rfl) _
    have c2 : CL (w1.setCell ⟨r, 1, none⟩ (.string (bs A))) r [.string (bs T), .string (bs A), .string (bs K)] := c1.set (o := 1) (by show 1 < 3; decide) (.string (bs A))
    refine ⟨_, rfl, z2, fun _ => ?_⟩
    (try simp only [List.getElem_toArray]); (try simp only [List.getElem_cons_succ]); (try simp only [List.getElem_cons_zero]); (try simp only [Act.put]); (try simp only [List.setIfInBounds_toArray]); (repeat first | simp only [List.set_cons_succ] | simp only [List.set_cons_zero])
    refine wpAnyH_take (i := 12) (v := ?_) rfl (by kernel_rfl) (by kernel_rfl) (by kernel_rfl) (fun _ _ _ h => h) (Or.inl ⟨by rfl, ?_⟩) (by assumption) ?_
    rotate_left
    · intro wx hSw; clear hSw; go_simp <;> with_reducible rfl
    (try simp only [List.getElem_toArray]); (try simp only [List.getElem_cons_succ]); (try simp only [List.getElem_cons_zero]); (try simp only [Act.put]); (try simp only [List.setIfInBounds_toArray]); (repeat first | simp only [List.set_cons_succ] | simp only [List.set_cons_zero])
    refine wpAnyH_take (i := 13) (v := ?_) rfl (by kernel_rfl) (by kernel_rfl) (by kernel_rfl) (fun _ _ _ h => h) (Or.inl ⟨by rfl, ?_⟩) (by assumption) ?_
    rotate_left
    · intro wx hSw; clear hSw; go_simp <;> with_reducible rfl
    (try simp only [List.getElem_toArray]); (try simp only [List.getElem_cons_succ]); (try simp only [List.getElem_cons_zero]); (try simp only [Act.put]); (try simp only [List.setIfInBounds_toArray]); (repeat first | simp only [List.set_cons_succ] | simp only [List.set_cons_zero])
    refine wpAnyH_one 14 (by kernel_rfl) rfl rfl ?_
    refine wp_storeK 9 _ _ rfl ⟨r, 1, none⟩ rfl _ rfl (run_store_s (by rw [z1]; rfl) f1 _) ?_
    refine ⟨c2.c 2 _ rfl, fun _ => ?_⟩
    (try simp only [List.getElem_toArray]); (try simp only [List.getElem_cons_succ]); (try simp only [List.getElem_cons_zero]); (try simp only [Act.put]); (try simp only [List.setIfInBounds_toArray]); (repeat first | simp only [List.set_cons_succ] | simp only [List.set_cons_zero])
    refine wpAnyH_done (by kernel_rfl) ?_ _
    generalize w1.setCell ⟨r, 1, none⟩ (.string (bs A)) = W2 at *
    clear hSp k1 c1 z1 f1 z2 hHeld y1d y2d cD
    have g2 := hGw.keep K1 hr12
    have hf2 := hFi W2 g2
    have x1 := c2.c 1 _ rfl
    have x2 := c2.c 2 _ rfl
    have x2z := c2.z 2 (by show 2 < 3; decide)
    have hLv : ∀ W, CL W r [.string (bs T), .string (bs A), .string (bs KA)] → Keeps (fun k => k = r) w W → Calls Tryz.prog 46 #[.pointer (some ⟨r, 0, none⟩)] W fun e w' => e = panT T A ∧ Keeps (fun _ => False) W w' := fun W c k => leave_any ⟨hT ▸ c, hsA, hTl, hGw.keep k hr12, hlow⟩
    have hRd : ∀ W, CL W r [.string (bs T), .string (bs A), .string (bs KA)] → Keeps (fun k => k = r) w W → RdM W r T A := fun W c k => ⟨hT ▸ c, hsA, hTl, hGw.keep k hr12, hlow⟩
    have HQ1 : Hid _ := q1
    have HQ2 : Hid _ := q2
    have HB : Hid (badB A = (List.isEmpty KA && !List.isEmpty A)) := hbad
    clear q1 q2 hbad g2
    cases hk : KA.isEmpty
    · have eK : (bs KA).toList.isEmpty = false := by rw [hKt]; exact hk
      clear hKt hAt
      go_wp2_with ((go_at_call 45; refine hf2.mono ?_; rintro e w3 ⟨rfl, b3⟩; have k3 := Keeps.ofBelow b3; have c3 := c2.keep (by show 0 < 3; decide) k3 (fun e => e); have v1 := c3.c 1 _ rfl; have v2 := c3.c 2 _ rfl; have v2z := c3.z 2 (by show 2 < 3; decide); have K3 := K1.trans (k3.mono (fun _ _ e => e.elim)); have K4 : Keeps (fun k => k = r) w (w3.setCell ⟨r, 2, none⟩ (.string (bs KA))) := Keeps.setCell (S := fun k => k = r) (p := ⟨r, 2, none⟩) K3 (fun _ => rfl) _; have c4 : CL (w3.setCell ⟨r, 2, none⟩ (.string (bs KA))) r [.string (bs T), .string (bs A), .string (bs KA)] := c3.set (o := 2) (by show 2 < 3; decide) (.string (bs KA)); clear c2 hf2 x1 x2 x2z b3 k3 c3 K3 K1))
      go_end0
      exact HQ1.out _ (hRd _ c4 K4) K4 (by rw [HB.out, hk]; rfl)
    · have eK : (bs KA).toList.isEmpty = true := by rw [hKt]; exact hk
      cases ha : A.isEmpty
      · have eA : (bs A).toList.isEmpty = false := by rw [hAt]; exact ha
        clear hKt hAt
        go_wp2_with (first | (go_at_call 45; refine hf2.mono ?_; rintro e w3 ⟨rfl, b3⟩; have k3 := Keeps.ofBelow b3; have c3 := c2.keep (by show 0 < 3; decide) k3 (fun e => e); have v1 := c3.c 1 _ rfl; have v2 := c3.c 2 _ rfl; have v2z := c3.z 2 (by show 2 < 3; decide); have K3 := K1.trans (k3.mono (fun _ _ e => e.elim)); have K4 : Keeps (fun k => k = r) w (w3.setCell ⟨r, 2, none⟩ (.string (bs KA))) := Keeps.setCell (S := fun k => k = r) (p := ⟨r, 2, none⟩) K3 (fun _ => rfl) _; have c4 : CL (w3.setCell ⟨r, 2, none⟩ (.string (bs KA))) r [.string (bs T), .string (bs A), .string (bs KA)] := c3.set (o := 2) (by show 2 < 3; decide) (.string (bs KA)); clear c2 hf2 x1 x2 x2z b3 k3 c3 K3 K1) | (go_at_call 46; refine (hLv _ c4 K4).mono ?_; rintro e w5 ⟨rfl, k5⟩))
        exact ⟨rfl, HQ2.out _ (K4.trans (k5.mono (fun _ _ e => e.elim))) (by rw [HB.out, hk, ha]; rfl)⟩
      · have eA : (bs A).toList.isEmpty = true := by rw [hAt]; exact ha
        clear hKt hAt
        go_wp2_with ((go_at_call 45; refine hf2.mono ?_; rintro e w3 ⟨rfl, b3⟩; have k3 := Keeps.ofBelow b3; have c3 := c2.keep (by show 0 < 3; decide) k3 (fun e => e); have v1 := c3.c 1 _ rfl; have v2 := c3.c 2 _ rfl; have v2z := c3.z 2 (by show 2 < 3; decide); have K3 := K1.trans (k3.mono (fun _ _ e => e.elim)); have K4 : Keeps (fun k => k = r) w (w3.setCell ⟨r, 2, none⟩ (.string (bs KA))) := Keeps.setCell (S := fun k => k = r) (p := ⟨r, 2, none⟩) K3 (fun _ => rfl) _; have c4 : CL (w3.setCell ⟨r, 2, none⟩ (.string (bs KA))) r [.string (bs T), .string (bs A), .string (bs KA)] := c3.set (o := 2) (by show 2 < 3; decide) (.string (bs KA)); clear c2 hf2 x1 x2 x2z b3 k3 c3 K3 K1))
        go_end0
        exact HQ1.out _ (hRd _ c4 K4) K4 (by rw [HB.out, hk, ha]; rfl)
  cases hb : badB A
  · refine BODY _ ?_ ?_
    · exact fun W3 h3 k3 _ => ⟨fun _ => ⟨rfl, h3, k3⟩, fun c => by cases c⟩
    · exact fun W3 _ c => by rw [hb] at c; cases c
  · refine BODY _ ?_ ?_
    · exact fun W3 _ _ c => by rw [hb] at c; cases c
    · exact fun W3 k3 _ => ⟨fun c => (by cases c), fun _ => ⟨rfl, k3⟩⟩
end Go.Proofs.YtehblpbefkopbaaGreatDoor
