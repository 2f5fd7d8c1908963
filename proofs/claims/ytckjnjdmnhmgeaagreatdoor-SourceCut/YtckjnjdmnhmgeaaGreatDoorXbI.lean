import Derived.Test.YtckjnjdmnhmgeaaGreatDoorXbG
import Derived.Test.YtckjnjdmnhmgeaaGreatDoorXbF
namespace Go.Proofs.YtckjnjdmnhmgeaaGreatDoor
open Go.RowKit Go.ChangeShapes Go.WideShapes Go.ChangeAt Go.Deep
attribute [local go_sem] Oper.semAt_some run_store_nf run_store_f
abbrev Z0 : Bs := []
set_option maxHeartbeats 1000000 in
set_option maxRecDepth 100000 in
theorem next_0 {w : World} {r : Nat} {T : Bs} (hc0 : CL w r [.string (bs T), .string (bs T), .string (bs Z0)]) (hTl : T.length ≤ 32768) (hGw : SG w) (hlow : 12 ≤ r) : Calls Tryz.prog 20 #[.pointer (some ⟨r, 0, none⟩)] w fun e w' => (badB ((spk false T)) = false → e = .returned (.tuple #[]) ∧ RdM w' r T ((spk false T)) ∧ Keeps (fun k => k = r) w w') ∧ (badB ((spk false T)) = true → e = panT T ((spk false T)) ∧ Keeps (fun k => k = r) w w') := by
  have kD : Keeps (fun _ => False) w w.drew := (Keeps.refl _ w).drew
  have cD := hc0.keep (by show 0 < 3; decide) kD (fun e => e)
  have y1d := cD.c 1 _ rfl
  have y2d := cD.c 2 _ rfl
  have hsz := bs_size T
  have hex := ext_bs T (Z0).length T.length
  have hkz := bs_size (Z0)
  have hse : (bs T).extract (bs (Z0)).size (bs T).size = bs (T.drop (Z0).length) := by rw [bs_size, bs_size, hex, List.take_length]
  have hle : (bs (Z0)).size ≤ (bs T).size := by rw [bs_size, bs_size]; exact Nat.zero_le _
  have hle2 : ((bs (Z0)).size : Int) ≤ ((bs T).size : Int) := by omega
  clear hsz hkz
  have hrl := hTl
  have hG : SG w.drew := hGw.keep kD (fun _ _ e => e)
  have hSp := spoken_any (T.drop (Z0).length) (by rw [List.length_drop]; omega) hG
  have hr12 : ∀ i, i < 12 → ¬ i = r := fun i hi e => by omega
  have hsA : (spk false T) <:+ T := spk_suf false T
  have hAl : ((spk false T)).length ≤ 32768 := Nat.le_trans hsA.length_le hTl
  have hFi := fun W (hg : SG W) => first_any ((spk false T)) hAl hg
  rw [show spk false (T.drop (Z0).length) = (spk false T) from rfl] at hSp
  have hbad : badB ((spk false T)) = ((tok ((spk false T))).isEmpty && !((spk false T)).isEmpty) := rfl
  have hKt := bs_toList (tok ((spk false T)))
  have hAt := bs_toList ((spk false T))
  have HA : Hid ((spk false T) = (spk false T)) := rfl
  clear hex
  generalize T.drop (Z0).length = Nx at *
  generalize hA : (spk false T) = A at *
  generalize Z0 = K at *
  have hKA : Hid (tok A = tok A) := rfl
  have BODY : ∀ Q : Ending → World → Prop, (∀ W3, RdM W3 r T A → Keeps (fun k => k = r) w W3 → badB A = false → Q (.returned (.tuple #[])) W3) → (∀ W3, Keeps (fun k => k = r) w W3 → badB A = true → Q (panT T A) W3) → Calls Tryz.prog 20 #[.pointer (some ⟨r, 0, none⟩)] w Q := by
    intro Q q1 q2
    generalize hT : tok A = KA at *
    go_enter Tryz.func20, Tryz.ntmps20
    go_wp2_with fail
    refine wp_region_held_drew (S := fun W => W.cell? ⟨r, 2, none⟩ = some (.string (bs K))) (by kernel_rfl) y2d (fun hHeld => ?_)
    refine wpAnyH_take (i := 0) (v := ?_) rfl (by kernel_rfl) (by kernel_rfl) (by kernel_rfl) (fun _ _ _ h => h) (Or.inl ⟨by rfl, ?_⟩) (by assumption) ?_
    rotate_left
    · intro wx hSw; clear hSw; go_simp <;> with_reducible rfl
    (try simp only [List.getElem_toArray]); (try simp only [List.getElem_cons_succ]); (try simp only [List.getElem_cons_zero]); (try simp only [Act.put]); (try simp only [List.setIfInBounds_toArray]); (repeat first | simp only [List.set_cons_succ] | simp only [List.set_cons_zero])
    refine wpAnyH_take (i := 1) (v := ?_) rfl (by kernel_rfl) (by kernel_rfl) (by kernel_rfl) (fun _ _ _ h => h) (Or.inl ⟨by rfl, ?_⟩) (by assumption) ?_
    rotate_left
    · intro wx hSw; clear hSw; go_simp <;> with_reducible rfl
    (try simp only [List.getElem_toArray]); (try simp only [List.getElem_cons_succ]); (try simp only [List.getElem_cons_zero]); (try simp only [Act.put]); (try simp only [List.setIfInBounds_toArray]); (repeat first | simp only [List.set_cons_succ] | simp only [List.set_cons_zero])
    refine wpAnyH_take (i := 2) (v := ?_) rfl (by kernel_rfl) (by kernel_rfl) (by kernel_rfl) (fun _ _ _ h => h) (Or.inl ⟨by rfl, ?_⟩) (by assumption) ?_
    rotate_left
    · intro wx hSw; clear hSw; go_simp <;> with_reducible rfl
    (try simp only [List.getElem_toArray]); (try simp only [List.getElem_cons_succ]); (try simp only [List.getElem_cons_zero]); (try simp only [Act.put]); (try simp only [List.setIfInBounds_toArray]); (repeat first | simp only [List.set_cons_succ] | simp only [List.set_cons_zero])
    refine wpAnyH_take (i := 3) (v := ?_) rfl (by kernel_rfl) (by kernel_rfl) (by kernel_rfl) (fun _ _ _ h => h) (Or.inl ⟨by rfl, ?_⟩) (by assumption) ?_
    rotate_left
    · intro wx hSw; clear hSw; go_simp <;> with_reducible rfl
    (try simp only [List.getElem_toArray]); (try simp only [List.getElem_cons_succ]); (try simp only [List.getElem_cons_zero]); (try simp only [Act.put]); (try simp only [List.setIfInBounds_toArray]); (repeat first | simp only [List.set_cons_succ] | simp only [List.set_cons_zero])
    refine wpAnyH_take (i := 5) (v := ?_) rfl (by kernel_rfl) (by kernel_rfl) (by kernel_rfl) (fun _ _ _ h => h) (Or.inl ⟨by rfl, ?_⟩) (by assumption) ?_
    rotate_left
    · intro wx hSw; clear hSw; go_simp <;> with_reducible rfl
    (try simp only [List.getElem_toArray]); (try simp only [List.getElem_cons_succ]); (try simp only [List.getElem_cons_zero]); (try simp only [Act.put]); (try simp only [List.setIfInBounds_toArray]); (repeat first | simp only [List.set_cons_succ] | simp only [List.set_cons_zero])
    refine wpAnyH_take (i := 6) (v := ?_) rfl (by kernel_rfl) (by kernel_rfl) (by kernel_rfl) (fun _ _ _ h => h) (Or.inl ⟨by rfl, ?_⟩) (by assumption) ?_
    rotate_left
    · intro wx hSw; clear hSw; go_simp <;> with_reducible rfl
    (try simp only [List.getElem_toArray]); (try simp only [List.getElem_cons_succ]); (try simp only [List.getElem_cons_zero]); (try simp only [Act.put]); (try simp only [List.setIfInBounds_toArray]); (repeat first | simp only [List.set_cons_succ] | simp only [List.set_cons_zero])
    refine wpAnyH_take (i := 7) (v := ?_) rfl (by kernel_rfl) (by kernel_rfl) (by kernel_rfl) (fun _ _ _ h => h) (Or.inl ⟨by rfl, ?_⟩) (by assumption) ?_
    rotate_left
    · intro wx hSw; clear hSw; go_simp <;> with_reducible rfl
    (try simp only [List.getElem_toArray]); (try simp only [List.getElem_cons_succ]); (try simp only [List.getElem_cons_zero]); (try simp only [Act.put]); (try simp only [List.setIfInBounds_toArray]); (repeat first | simp only [List.set_cons_succ] | simp only [List.set_cons_zero])
    refine wpAnyH_take (i := 8) (v := ?_) rfl (by kernel_rfl) (by kernel_rfl) (by kernel_rfl) (fun _ _ _ h => h) (Or.inl ⟨by rfl, ?_⟩) (by assumption) ?_
    rotate_left
    · intro wx hSw; have q5 := hSw; clear hSw; go_simp <;> with_reducible rfl
    (try simp only [List.getElem_toArray]); (try simp only [List.getElem_cons_succ]); (try simp only [List.getElem_cons_zero]); (try simp only [Act.put]); (try simp only [List.setIfInBounds_toArray]); (repeat first | simp only [List.set_cons_succ] | simp only [List.set_cons_zero])
    refine wpAnyH_take (i := 9) (v := ?_) rfl (by kernel_rfl) (by kernel_rfl) (by kernel_rfl) (fun _ _ _ h => h) (Or.inl ⟨by rfl, ?_⟩) (by assumption) ?_
    rotate_left
    · intro wx hSw; clear hSw; go_simp <;> with_reducible rfl
    (try simp only [List.getElem_toArray]); (try simp only [List.getElem_cons_succ]); (try simp only [List.getElem_cons_zero]); (try simp only [Act.put]); (try simp only [List.setIfInBounds_toArray]); (repeat first | simp only [List.set_cons_succ] | simp only [List.set_cons_zero])
    refine wpAnyH_one 4 (by kernel_rfl) rfl rfl ?_
    refine wp_loadK 9 _ rfl ⟨r, 1, none⟩ rfl _ (run_load_s y1d) ?_
    refine ⟨hHeld, fun _ => ?_⟩
    (try simp only [List.getElem_toArray]); (try simp only [List.getElem_cons_succ]); (try simp only [List.getElem_cons_zero]); (try simp only [Act.put]); (try simp only [List.setIfInBounds_toArray]); (repeat first | simp only [List.set_cons_succ] | simp only [List.set_cons_zero])
    refine wpAnyH_take (i := 10) (v := ?_) rfl (by kernel_rfl) (by kernel_rfl) (by kernel_rfl) (fun _ _ _ h => h) (Or.inl ⟨by rfl, ?_⟩) (by assumption) ?_
    rotate_left
    · intro wx hSw; clear hSw; go_simp <;> with_reducible rfl
    (try simp only [List.getElem_toArray]); (try simp only [List.getElem_cons_succ]); (try simp only [List.getElem_cons_zero]); (try simp only [Act.put]); (try simp only [List.setIfInBounds_toArray]); (repeat first | simp only [List.set_cons_succ] | simp only [List.set_cons_zero])
    refine wpAnyH_one 11 (by kernel_rfl) rfl rfl ?_
    refine wp_call1 23 _ rfl _ rfl (fun _ _ => rfl) (hSp.mono ?_)
    rintro e w1 ⟨rfl, k1⟩
    have c1 := cD.keep (by show 0 < 3; decide) k1 (fun e => e)
    have z2 := c1.c 2 _ rfl
    have z1 := c1.c 1 _ rfl
    have f1 := c1.z 1 (by show 1 < 3; decide)
    have K1 : Keeps (fun k => k = r) w (w1.setCell ⟨r, 1, none⟩ (.string (bs A))) := Keeps.setCell (S := fun k => k = r) (p := ⟨r, 1, none⟩) ((kD.trans k1).mono (fun _ _ e => e.elim)) (fun _ => rfl) _
    have c2 : CL (w1.setCell ⟨r, 1, none⟩ (.string (bs A))) r [.string (bs T), .string (bs A), .string (bs K)] := c1.set (o := 1) (by show 1 < 3; decide) (.string (bs A))
    refine ⟨_, rfl, z2, fun _ => ?_⟩
    (try simp only [List.getElem_toArray]); (try simp only [List.getElem_cons_succ]); (try simp only [List.getElem_cons_zero]); (try simp only [Act.put]); (try simp only [List.setIfInBounds_toArray]); (repeat first | simp only [List.set_cons_succ] | simp only [List.set_cons_zero])
    refine wpAnyH_take (i := 12) (v := ?_) rfl (by kernel_rfl) (by kernel_rfl) (by kernel_rfl) (fun _ _ _ h => h) (Or.inl ⟨by rfl, ?_⟩) (by assumption) ?_
    rotate_left
    · intro wx hSw; clear hSw; go_simp <;> with_reducible rfl
    (try simp only [List.getElem_toArray]); (try simp only [List.getElem_cons_succ]); (try simp only [List.getElem_cons_zero]); (try simp only [Act.put]); (try simp only [List.setIfInBounds_toArray]); (repeat first | simp only [List.set_cons_succ] | simp only [List.set_cons_zero])
    refine wpAnyH_take (i := 13) (v := ?_) rfl (by kernel_rfl) (by kernel_rfl) (by kernel_rfl) (fun _ _ _ h => h) (Or.inl ⟨by rfl, ?_⟩) (by assumption) ?_
    rotate_left
    · intro wx hSw; clear hSw; go_simp <;> with_reducible rfl
    (try simp only [List.getElem_toArray]); (try simp only [List.getElem_cons_succ]); (try simp only [List.getElem_cons_zero]); (try simp only [Act.put]); (try simp only [List.setIfInBounds_toArray]); (repeat first | simp only [List.set_cons_succ] | simp only [List.set_cons_zero])
    refine wpAnyH_one 14 (by kernel_rfl) rfl rfl ?_
    refine wp_storeK 9 _ _ rfl ⟨r, 1, none⟩ rfl _ rfl (run_store_s (by rw [z1]; rfl) f1 _) ?_
    refine ⟨c2.c 2 _ rfl, fun _ => ?_⟩
    (try simp only [List.getElem_toArray]); (try simp only [List.getElem_cons_succ]); (try simp only [List.getElem_cons_zero]); (try simp only [Act.put]); (try simp only [List.setIfInBounds_toArray]); (repeat first | simp only [List.set_cons_succ] | simp only [List.set_cons_zero])
    refine wpAnyH_done (by kernel_rfl) ?_ _
    generalize w1.setCell ⟨r, 1, none⟩ (.string (bs A)) = W2 at *
    clear hSp k1 c1 z1 f1 z2 hHeld y1d y2d cD
    have g2 := hGw.keep K1 hr12
    have hf2 := hFi W2 g2
    have x1 := c2.c 1 _ rfl
    have x2 := c2.c 2 _ rfl
    have x2z := c2.z 2 (by show 2 < 3; decide)
    have hLv : ∀ W, CL W r [.string (bs T), .string (bs A), .string (bs KA)] → Keeps (fun k => k = r) w W → Calls Tryz.prog 25 #[.pointer (some ⟨r, 0, none⟩)] W fun e w' => e = panT T A ∧ Keeps (fun _ => False) W w' := fun W c k => leave_any ⟨hT ▸ c, hsA, hTl, hGw.keep k hr12, hlow⟩
    have hRd : ∀ W, CL W r [.string (bs T), .string (bs A), .string (bs KA)] → Keeps (fun k => k = r) w W → RdM W r T A := fun W c k => ⟨hT ▸ c, hsA, hTl, hGw.keep k hr12, hlow⟩
    have HQ1 : Hid _ := q1
    have HQ2 : Hid _ := q2
    have HB : Hid (badB A = (List.isEmpty KA && !List.isEmpty A)) := hbad
    clear q1 q2 hbad g2
    cases hk : KA.isEmpty
    · have eK : (bs KA).toList.isEmpty = false := by rw [hKt]; exact hk
      clear hKt hAt
      go_wp2_with ((go_at_call 24; refine hf2.mono ?_; rintro e w3 ⟨rfl, b3⟩; have k3 := Keeps.ofBelow b3; have c3 := c2.keep (by show 0 < 3; decide) k3 (fun e => e); have v1 := c3.c 1 _ rfl; have v2 := c3.c 2 _ rfl; have v2z := c3.z 2 (by show 2 < 3; decide); have K3 := K1.trans (k3.mono (fun _ _ e => e.elim)); have K4 : Keeps (fun k => k = r) w (w3.setCell ⟨r, 2, none⟩ (.string (bs KA))) := Keeps.setCell (S := fun k => k = r) (p := ⟨r, 2, none⟩) K3 (fun _ => rfl) _; have c4 : CL (w3.setCell ⟨r, 2, none⟩ (.string (bs KA))) r [.string (bs T), .string (bs A), .string (bs KA)] := c3.set (o := 2) (by show 2 < 3; decide) (.string (bs KA)); clear c2 hf2 x1 x2 x2z b3 k3 c3 K3 K1))
      go_end0
      exact HQ1.out _ (hRd _ c4 K4) K4 (by rw [HB.out, hk]; rfl)
    · have eK : (bs KA).toList.isEmpty = true := by rw [hKt]; exact hk
      cases ha : A.isEmpty
      · have eA : (bs A).toList.isEmpty = false := by rw [hAt]; exact ha
        clear hKt hAt
        go_wp2_with (first | (go_at_call 24; refine hf2.mono ?_; rintro e w3 ⟨rfl, b3⟩; have k3 := Keeps.ofBelow b3; have c3 := c2.keep (by show 0 < 3; decide) k3 (fun e => e); have v1 := c3.c 1 _ rfl; have v2 := c3.c 2 _ rfl; have v2z := c3.z 2 (by show 2 < 3; decide); have K3 := K1.trans (k3.mono (fun _ _ e => e.elim)); have K4 : Keeps (fun k => k = r) w (w3.setCell ⟨r, 2, none⟩ (.string (bs KA))) := Keeps.setCell (S := fun k => k = r) (p := ⟨r, 2, none⟩) K3 (fun _ => rfl) _; have c4 : CL (w3.setCell ⟨r, 2, none⟩ (.string (bs KA))) r [.string (bs T), .string (bs A), .string (bs KA)] := c3.set (o := 2) (by show 2 < 3; decide) (.string (bs KA)); clear c2 hf2 x1 x2 x2z b3 k3 c3 K3 K1) | (go_at_call 25; refine (hLv _ c4 K4).mono ?_; rintro e w5 ⟨rfl, k5⟩))
        exact ⟨rfl, HQ2.out _ (K4.trans (k5.mono (fun _ _ e => e.elim))) (by rw [HB.out, hk, ha]; rfl)⟩
      · have eA : (bs A).toList.isEmpty = true := by rw [hAt]; exact ha
        clear hKt hAt
        go_wp2_with ((go_at_call 24; refine hf2.mono ?_; rintro e w3 ⟨rfl, b3⟩; have k3 := Keeps.ofBelow b3; have c3 := c2.keep (by show 0 < 3; decide) k3 (fun e => e); have v1 := c3.c 1 _ rfl; have v2 := c3.c 2 _ rfl; have v2z := c3.z 2 (by show 2 < 3; decide); have K3 := K1.trans (k3.mono (fun _ _ e => e.elim)); have K4 : Keeps (fun k => k = r) w (w3.setCell ⟨r, 2, none⟩ (.string (bs KA))) := Keeps.setCell (S := fun k => k = r) (p := ⟨r, 2, none⟩) K3 (fun _ => rfl) _; have c4 : CL (w3.setCell ⟨r, 2, none⟩ (.string (bs KA))) r [.string (bs T), .string (bs A), .string (bs KA)] := c3.set (o := 2) (by show 2 < 3; decide) (.string (bs KA)); clear c2 hf2 x1 x2 x2z b3 k3 c3 K3 K1))
        go_end0
        exact HQ1.out _ (hRd _ c4 K4) K4 (by rw [HB.out, hk, ha]; rfl)
  cases hb : badB A
  · refine BODY _ ?_ ?_
    · exact fun W3 h3 k3 _ => ⟨fun _ => ⟨rfl, h3, k3⟩, fun c => by cases c⟩
    · exact fun W3 _ c => by rw [hb] at c; cases c
  · refine BODY _ ?_ ?_
    · exact fun W3 _ _ c => by rw [hb] at c; cases c
    · exact fun W3 k3 _ => ⟨fun c => (by cases c), fun _ => ⟨rfl, k3⟩⟩
set_option maxHeartbeats 1000000 in
set_option maxRecDepth 100000 in
theorem newReader_any {w : World} {T : Bs} (hG : SG w) (h12 : 12 ≤ w.heap.size) (hT : T.length ≤ 32768) : Calls Tryz.prog 15 #[.string (bs T)] w fun e w' => (badB (spk false T) = false → e = .returned (pR w.heap.size) ∧ RdM w' w.heap.size T (spk false T) ∧ Keeps (fun _ => False) w w') ∧ (badB (spk false T) = true → e = panT T (spk false T) ∧ Keeps (fun _ => False) w w') := by
  have ka := (Keeps.refl (fun _ => False) w).alloc (.cells ([.string (bs T), .string (bs T), .string (bs Z0)] : List Value).toArray 58)
  have hN := next_0 (CL.made w [.string (bs T), .string (bs T), .string (bs Z0)] 58) hT (hG.keep ka (fun _ _ e => e)) h12
  have fin : ∀ w', Keeps (fun k => k = w.heap.size) (w.alloc (.cells ([.string (bs T), .string (bs T), .string (bs Z0)] : List Value).toArray 58)) w' → Keeps (fun _ => False) w w' := fun w' k => ka.trans' k (fun _ _ e => e) (fun i hi e => by omega)
  generalize hS : spk false T = S at *
  generalize bs T = TT at *
  cases hb : badB S with
  | false =>
    refine Calls.mono ?_ (fun e w' (h : e = .returned (pR w.heap.size) ∧ RdM w' w.heap.size T S ∧ Keeps (fun _ => False) w w') => ⟨fun _ => h, fun q => by cases q⟩)
    have hN := hN.mono fun e w' h => h.1 hb
    go_enter Tryz.func15, Tryz.ntmps15
    go_wp2_with (go_at_call 20; refine hN.mono ?_; rintro e w1 ⟨rfl, h1, k1⟩)
    go_ret
    exact ⟨rfl, h1, fin _ k1⟩
  | true =>
    refine Calls.mono ?_ (fun e w' (h : e = panT T S ∧ Keeps (fun _ => False) w w') => ⟨(fun q => by cases q), fun _ => h⟩)
    have hN := hN.mono fun e w' h => h.2 hb
    go_enter Tryz.func15, Tryz.ntmps15
    go_wp2_with (go_at_call 20; refine hN.mono ?_; rintro e w1 ⟨rfl, k1⟩)
    exact ⟨rfl, rfl, fin _ k1⟩
theorem made1 (w : World) (l : List Value) (t : TypeId) (o : Obj) (hl : 0 < l.length) : CL ((w.alloc (.cells l.toArray t)).alloc o) w.heap.size l := (CL.made w l t).alloc hl o
theorem made2 (w : World) (l : List Value) (t : TypeId) (o : Obj) : CL ((w.alloc o).alloc (.cells l.toArray t)) (w.heap.size + 1) l := by
  have h := CL.made (w.alloc o) l t
  simpa using h
theorem ks2 (w : World) (o o' : Obj) : Keeps (fun _ => False) w ((w.alloc o).alloc o') := ((Keeps.refl _ w).alloc o).alloc o'
theorem iFa : (Tryz.prog.info? 25).map (·.size) = some 3 := by kernel_rfl
theorem run_fa {W : World} {b : Nat} {x y z : Int} (h : CL W b [.int .i64 x, .int .i64 y, .int .i64 z]) : (loadVar 25 ⟨b, 0, none⟩).run Tryz.prog W = .ok (.agg #[.int .i64 x, .int .i64 y, .int .i64 z]) W :=
  run_loadVar_mid W b 0 25 [.int .i64 x, .int .i64 y, .int .i64 z] _ (fun j v e => by have := h.c j v e; rwa [Nat.zero_add]) Tryz.underlying25 rfl (by rw [iFa]; rfl)
set_option maxHeartbeats 400000 in
set_option maxRecDepth 1000000 in
theorem caught_any (w : World) (x y z : Int) : Calls Tryz.prog 14 #[.iface 25 (.agg #[.int .i64 x, .int .i64 y, .int .i64 z])] w fun e w' => e = .returned (.agg #[.int .i64 x, .int .i64 y, .int .i64 z]) ∧ Keeps (fun _ => False) w w' := by
  have ht : ∀ w : World, (Instr.typeAssert (.iface 25 (.agg #[.int .i64 x, .int .i64 y, .int .i64 z])) 20 25 true).run Tryz.prog w = .ok (.tuple #[.agg #[.int .i64 x, .int .i64 y, .int .i64 z], .bool true]) w := fun _ => rfl
  obtain ⟨W2, hW2⟩ : ∃ W2, W2 = (w.alloc (.cells #[.int .i64 0, .int .i64 0, .int .i64 0] 25)).alloc (.cells #[.int .i64 x, .int .i64 y, .int .i64 z] 25) := ⟨_, rfl⟩
  have m1 : CL W2 w.heap.size [.int .i64 0, .int .i64 0, .int .i64 0] := by rw [hW2]; exact made1 w [.int .i64 0, .int .i64 0, .int .i64 0] 25 _ (by show 0 < 3; decide)
  have m2 : CL W2 (w.heap.size + 1) [.int .i64 x, .int .i64 y, .int .i64 z] := by rw [hW2]; exact made2 w [.int .i64 x, .int .i64 y, .int .i64 z] 25 _
  have k2 : Keeps (fun _ => False) w W2 := by rw [hW2]; exact ks2 w _ _
  have HW : Hid (_ = _) := hW2
  have hRL := run_fa m2
  have hA : ([.int .i64 x, .int .i64 y, .int .i64 z] : List Value).toArray.all (·.oneCell') = true := all_oneCell_toArray (by simp [Value.oneCell'])
  clear hW2 m2
  go_enter Tryz.func14, Tryz.ntmps14
  go_wp2_with (first | (rw [← HW.out]; clear HW; refine wpList_load_run rfl 25 _ rfl ⟨w.heap.size + 1, 0, none⟩ rfl _ hRL ?_; clear hRL) | (refine wpList_store_cl rfl 25 _ _ rfl w.heap.size 0 3 _ rfl rfl rfl m1 (by show 3 ≤ 3; decide) iFa hA ?_; intro w5 hc5 k5 hsz5; clear hsz5))
  have hc6 : CL w5 w.heap.size [.int .i64 x, .int .i64 y, .int .i64 z] := hc5
  have hr6 := run_fa hc6
  refine bodyPost_ret (v := .agg #[.int .i64 x, .int .i64 y, .int .i64 z]) (by rw [results_cell1 rfl]; simp [asAddr, hr6]) rfl ⟨rfl, ?_⟩
  exact k2.trans' k5 (fun _ _ e => e) (fun i hi e => by have e : i = w.heap.size := e; omega)
set_option maxHeartbeats 800000 in
set_option maxRecDepth 1000000 in
/-- The deferred closure on a frame that a fault has left. -/
theorem pcatch_fault {A B : Nat} (older : List PanicEntry) {v0 : Value} {a0 b0 c0 : Int} (x y z : Int) {w : World} (ca : CL w A [v0]) (cb : CL w B [.int .i64 a0, .int .i64 b0, .int .i64 c0]) (hAB : A ≠ B) :
    CallsD Tryz.prog 13 #[.pointer (some ⟨A, 0, none⟩), .pointer (some ⟨B, 0, none⟩)] (.panicking ({ v := .iface 25 (.agg #[.int .i64 x, .int .i64 y, .int .i64 z]), recovered := false } :: older)) w fun e u' w' =>
      e = .returned (.tuple #[]) ∧ u' = .panicking ({ v := .iface 25 (.agg #[.int .i64 x, .int .i64 y, .int .i64 z]), recovered := true } :: older) ∧ CL w' A [.slice none 0 0] ∧ CL w' B [.int .i64 x, .int .i64 y, .int .i64 z] ∧ Keeps (fun k => k = A ∨ k = B) w w' := by
  have hK := caught_any w x y z
  refine callsD_of_wpS Tryz.func13 rfl fun c₀ cs hu => ?_
  apply wpS_seq
  apply wpS_region
  simp [wpOpsS, go_sem, recoverD, hu, Tryz.ntmps13, Exit.thenS]
  apply wpS_seq
  apply wpS_region
  simp [wpOpsS, go_sem, Exit.thenS]
  refine wpS_cond (t := true) (by simp [Act.eval, Array.replicate]) ?_
  simp only [if_true]
  refine wpS_of_wp ?_
  change Code.wp _ _ _ { tmps := #[.pointer (some ⟨A, 0, none⟩), .pointer (some ⟨B, 0, none⟩), .iface 25 (.agg #[.int .i64 x, .int .i64 y, .int .i64 z]), .iface 25 (.agg #[.int .i64 x, .int .i64 y, .int .i64 z]), .iface 25 (.agg #[.int .i64 x, .int .i64 y, .int .i64 z]), .bool true, undef, undef], defers := [] } w
  have hA : ([.int .i64 x, .int .i64 y, .int .i64 z] : List Value).toArray.all (·.oneCell') = true := all_oneCell_toArray (by simp [Value.oneCell'])
  go_wp2_with fail
  refine hK.mono ?_
  rintro e w1 ⟨rfl, k1⟩
  have ca1 := ca.keep (by show 0 < 1; decide) k1 (fun e => e)
  have cb1 := cb.keep (by show 0 < 3; decide) k1 (fun e => e)
  have y0 := ca1.c 0 _ rfl
  have z0 := ca1.z 0 (by show 0 < 1; decide)
  have ca2 := ca1.set (o := 0) (by show 0 < 1; decide) (.slice none 0 0)
  have cb2 := cb1.other (p := ⟨A, 0, none⟩) hAB (.slice none 0 0)
  have k2 : Keeps (fun k => k = A ∨ k = B) w (w1.setCell ⟨A, 0, none⟩ (.slice none 0 0)) := (k1.mono (fun _ _ e => e.elim)).setCell (fun _ => .inl rfl) _
  clear ca1 cb1 hK
  go_wp2_with (refine wpList_store_cl rfl 25 _ _ rfl B 0 3 _ rfl rfl rfl cb2 (by show 3 ≤ 3; decide) iFa hA ?_; intro w5 hc5 k5 hsz5; clear hsz5)
  have hc6 : CL w5 B [.int .i64 x, .int .i64 y, .int .i64 z] := hc5
  have ca6 := ca2.keep (by show 0 < _; simp) k5 hAB
  simp [bodyPostS, results, Tryz.results13]
  exact ⟨ca6, hc6, k2.trans (k5.mono (fun _ _ e => .inr e))⟩
end Go.Proofs.YtckjnjdmnhmgeaaGreatDoor
