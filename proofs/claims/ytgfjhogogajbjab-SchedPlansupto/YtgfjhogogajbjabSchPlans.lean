import Derived.Test.YtgfjhogogajbjabSchPS3
namespace Go.Proofs.Ytgfjhogogajbjab
open Go.RowKit Go.Shelf

set_option maxHeartbeats 6400000 in
set_option maxRecDepth 1000000 in
theorem plans_walk {w : World} {a : Option Addr} {len : Nat} {E : Nat → OE} (h1 : OPL w a len E) (hE : ∀ i, i < len → I64 (E i).who ∧ I64 (E i).n ∧ (E i).pl ≤ 1048576) (hb : len ≤ 1048576) (cap : Nat) :
    Calls Try.prog 5 #[.slice a len cap] w fun e w' => e = .returned (.bool true) ∧ Below w.heap.size w w' := by
  have hN0 : Calls Try.prog 6 #[.int .i64 2, .slice (some ⟨w.heap.size, 0, none⟩) 4 4] (w.alloc (.cells #[.int .i64 1, .int .i64 0, .int .i64 5, .int .i64 1] 2)) fun e w' => ∃ pb vs, e = .returned (.tuple #[.pointer (some ⟨pb, 0, none⟩), .int .i64 0]) ∧ PL w' pb vs 2 4 (nmf 2 fun i => [1, 0, 5, 1].getD i 0) 0 (fun _ => false) ∧ (w.alloc (.cells #[.int .i64 1, .int .i64 0, .int .i64 5, .int .i64 1] 2)).heap.size ≤ pb ∧ (∀ g, vs.ownBlock = some g → (w.alloc (.cells #[.int .i64 1, .int .i64 0, .int .i64 5, .int .i64 1] 2)).heap.size ≤ g) ∧ Keeps (fun _ => False) (w.alloc (.cells #[.int .i64 1, .int .i64 0, .int .i64 5, .int .i64 1] 2)) w' :=
    new_any (nt := 2) (litNl w [1, 0, 5, 1]) 4 (by omega) (by simp)
  have hR0 : ∀ W : World, Calls Try.prog 19 #[.int .i64 2, .slice (some ⟨W.heap.size, 0, none⟩) 4 4] (W.alloc (.cells #[.int .i64 1, .int .i64 0, .int .i64 5, .int .i64 1] 2)) fun e w' => ∃ rb vp ve, e = .returned (.tuple #[.pointer (some ⟨rb, 0, none⟩), .int .i64 0]) ∧ RN (W.alloc (.cells #[.int .i64 1, .int .i64 0, .int .i64 5, .int .i64 1] 2)) w' rb vp ve 2 4 (fun i => [1, 0, 5, 1].getD i 0) := fun W =>
    rnew_any (nt := 2) (litNl W [1, 0, 5, 1]) 4 (by omega) (by simp)
  go_enter Try.func5, Try.ntmps5
  go_wp2_with (first | (go_at_call 6; refine hN0.mono ?_; clear hN0; rintro e w1 ⟨pb, vs, rfl, hP, hlp, hlv, k1⟩) | (go_at_call 19; refine (hR0 _).mono ?_; clear hR0; rintro e w2 ⟨rb, vp, ve, rfl, hN⟩))
  have k1' : Keeps (fun _ => False) w w1 := ((Keeps.refl _ w).alloc _).trans k1
  have k2' : Keeps (fun _ => False) w1 w2 := ((Keeps.refl _ w1).alloc _).trans hN.kp
  have hlb := hN.lb
  rw [World.size_alloc] at hlp hlv hlb
  have hI : PrI w2 ⟨pb, vs, rb, vp, ve, 2, 4, fun i => [1, 0, 5, 1].getD i 0, 0, fun _ => false⟩ := ⟨hP.new k2', hN.rl, fun k hk e => by
    have := hlb k e
    rcases hk with hk | hk
    · have h9 : k = pb := hk
      have := hP.lt; omega
    · have := owns_lt' hP.nm k hk; omega, by show 2 ≤ 6; omega, by show 4 ≤ 4096; omega, by show 0 ≤ 4; omega⟩
  have s1 := k1'.size
  obtain ⟨ρ0, S0⟩ := PS.start hI (k1'.trans k2') (fun k hk => by
    rcases hk with (hk | hk) | hk
    · have h9 : k = pb := hk
      omega
    · have := hlv k hk; omega
    · have := hlb k hk; omega)
  simp only at S0
  clear hI hlb hN hP hlp hlv k1 k1' k2' s1
  generalize Value.slice (some ⟨w2.heap.size, 0, none⟩) 1 1 = vl0 at S0 ⊢
  generalize Value.slice (some ⟨w2.heap.size + 1, 0, none⟩) 1 1 = vt0 at S0 ⊢
  generalize (w2.alloc _).alloc _ = W0 at S0 ⊢
  go_loopw [7, 8, 9] (fun vl vt i W => ∃ (j : Nat) (ρ : Nat → Nat) (ps : List Pr), j ≤ len ∧ i = .int .i64 (j : Int) ∧ ps.length ≤ j + 1 ∧ PS w W ρ vl vt ps) (fun _ _ i _ => len - (intOf i).toNat)
  case atStart => exact ⟨0, ρ0, _, Nat.zero_le _, rfl, by simp, S0⟩
  case round =>
    clear S0
    obtain ⟨j, ρ, ps, hj, rfl, hpl, hS⟩ := hrel
    obtain ⟨gl, cl, gt, ct, rfl, rfl, hcells, hoff⟩ := hS.at_
    by_cases hlt : j < len
    · have hltI : (j : Int) < (len : Int) := by omega
      have hj0 : (0 : Int) ≤ (j : Int) := by omega
      obtain ⟨b, off, rfl, hbb, hEA⟩ := h1.resolve_left (by omega)
      have hA := (hEA j hlt).keeps hS.kp
      obtain ⟨hw, hnI, hpl2⟩ := hE j hlt
      generalize E j = e at hA hw hnI hpl2
      obtain ⟨kd, who, n, pa, pl, pc, z⟩ := e
      obtain ⟨e0, e1, e2, e3, nl⟩ := hA
      simp only at e0 e1 e2 e3 nl hw hnI hpl2
      have hne := hS.ne
      obtain ⟨q, hql, hqe⟩ := who_of who (l := ps.length) hne (by omega)
      have HQ : Hid (wrap64 ((IntKind.u64.wrap who).tmod (ps.length : Int)) = (q : Int)) := hqe
      clear hqe
      have K0 : ∀ o, Keeps (fun _ => False) wr (wr.alloc o) := fun o => (Keeps.refl _ wr).alloc o
      by_cases hk0 : kd = 0
      ·
        subst hk0
        clear hEA
        have hkb : ((0 : Int) != 0) = false := rfl
        have HS : Hid (PS w wr ρ (.slice (some ⟨gl, 0, none⟩) ps.length cl) (.slice (some ⟨gt, 0, none⟩) ps.length ct) ps) := hS
        have NLd : Hid (NL (wr.alloc (.cells #[.int .i64 0, .int .i64 who, .int .i64 n, .slice pa pl pc] 62)).drew pa pl z) := nl.new ((K0 _).drew)
        have HNL : Hid (NL wr pa pl z) := nl
        have hCo : (wr.alloc (.cells #[.int .i64 0, .int .i64 who, .int .i64 n, .slice pa pl pc] 62)).drew.cell? ⟨wr.heap.size, 3, none⟩ = some (.slice pa pl pc) := by simp
        have HO : Hid ((wr.alloc (.cells #[.int .i64 0, .int .i64 who, .int .i64 n, .slice pa pl pc] 62)).drew.heap[wr.heap.size]? = some (.cells #[.int .i64 0, .int .i64 who, .int .i64 n, .slice pa pl pc] 62)) := heap_alloc_new wr _
        clear hS nl hcells hoff
        go_wp2
        rw [HQ.out]
        refine wp_region_held_drew (S := fun w' => w'.cell? ⟨wr.heap.size, 3, none⟩ = some (.slice pa pl pc)) (by kernel_rfl) hCo (fun hHeld => ?_)
        refine wpAnyH_take (i := 1) (v := ?_) rfl (by kernel_rfl) (by kernel_rfl) (by kernel_rfl) (fun _ _ _ h => h) (Or.inl ⟨by rfl, ?_⟩) hHeld ?_
        rotate_left
        · intro wx hSw; go_simp <;> with_reducible rfl
        (try simp only [Act.put]); (try simp only [List.setIfInBounds_toArray]); (repeat first | simp only [List.set_cons_succ] | simp only [List.set_cons_zero])
        refine wpAnyH_take (i := 2) (v := ?_) rfl (by kernel_rfl) (by kernel_rfl) (by kernel_rfl) (fun _ _ _ h => h) (Or.inl ⟨by rfl, ?_⟩) hHeld ?_
        rotate_left
        · intro wx hSw; go_simp <;> with_reducible rfl
        (try simp only [Act.put]); (try simp only [List.setIfInBounds_toArray]); (repeat first | simp only [List.set_cons_succ] | simp only [List.set_cons_zero])
        refine wpAnyH_take (i := 6) (v := ?_) rfl (by kernel_rfl) (by kernel_rfl) (by kernel_rfl) (fun _ _ _ h => h) (Or.inl ⟨by rfl, ?_⟩) hHeld ?_
        rotate_left
        · intro wx hSw; go_simp <;> with_reducible rfl
        (try simp only [Act.put]); (try simp only [List.setIfInBounds_toArray]); (repeat first | simp only [List.set_cons_succ] | simp only [List.set_cons_zero])
        refine wpAnyH_take (i := 7) (v := ?_) rfl (by kernel_rfl) (by kernel_rfl) (by kernel_rfl) (fun _ _ _ h => h) (Or.inl ⟨by rfl, ?_⟩) hHeld ?_
        rotate_left
        · intro wx hSw; go_simp <;> with_reducible rfl
        (try simp only [Act.put]); (try simp only [List.setIfInBounds_toArray]); (repeat first | simp only [List.set_cons_succ] | simp only [List.set_cons_zero])
        refine wpAnyH_take (i := 8) (v := ?_) rfl (by kernel_rfl) (by kernel_rfl) (by kernel_rfl) (fun _ _ _ h => h) (Or.inl ⟨by rfl, ?_⟩) hHeld ?_
        rotate_left
        · intro wx hSw; go_simp <;> with_reducible rfl
        (try simp only [Act.put]); (try simp only [List.setIfInBounds_toArray]); (repeat first | simp only [List.set_cons_succ] | simp only [List.set_cons_zero])
        refine wpAnyH_ready (rs := [0, 4]) (by kernel_rfl) (by simp) ?_
        refine AllReadyH.cons rfl (fun K hK => ?_) (AllReadyH.cons rfl (fun K hK => ?_) AllReadyH.nil)
        ·
          go_simp
          refine hK.out _ _ ?_ (fun hHeld => ?_)
          · exact ((Keeps.refl (fun _ => False) _).alloc _).cell hHeld (fun e => e)
          clear hK K
          (try simp only [Act.put]); (try simp only [List.setIfInBounds_toArray]); (repeat first | simp only [List.set_cons_succ] | simp only [List.set_cons_zero])
          refine wpAnyH_ready (rs := [3, 4]) (by kernel_rfl) (by simp) ?_
          refine AllReadyH.cons rfl (fun K hK => ?_) (AllReadyH.cons rfl (fun K hK => ?_) AllReadyH.nil)
          ·
            obtain ⟨v1, W1, hap1, own1, nn1, kk1, kg1⟩ := pick_app1 (W0 := (wr.alloc (.cells #[.int .i64 0, .int .i64 who, .int .i64 n, .slice pa pl pc] 62)).drew) ((Keeps.refl (fun _ => False) (wr.alloc (.cells #[.int .i64 0, .int .i64 who, .int .i64 n, .slice pa pl pc] 62)).drew).alloc (.cells #[] 2)) (heap_alloc_new (wr.alloc (.cells #[.int .i64 0, .int .i64 who, .int .i64 n, .slice pa pl pc] 62)).drew (.cells #[] 2)) (by first | exact Nat.le_refl _ | simp) NLd.out hpl2 pc
            try simp only [World.size_alloc, size_drew] at hap1
            refine step_append_run rfl (.tmp 81) (.tmp 83) _ (by rfl) _ _ v1 W1 (by rfl) (by rfl) hap1 ?_
            refine hK.out _ _ ?_ (fun hHeld => ?_)
            · exact kk1.cell hCo (fun e => e)
            clear hK K
            (try simp only [Act.put]); (try simp only [List.setIfInBounds_toArray]); (repeat first | simp only [List.set_cons_succ] | simp only [List.set_cons_zero])
            refine wpAnyH_ready (rs := [4]) (by kernel_rfl) (by simp) ?_
            refine AllReadyH.cons rfl (fun K hK => ?_) AllReadyH.nil
            go_simp
            refine hK.out _ _ ?_ (fun hHeld => ?_)
            · exact ((Keeps.refl (fun _ => False) _).alloc _).cell hHeld (fun e => e)
            clear hK K
            (try simp only [Act.put]); (try simp only [List.setIfInBounds_toArray]); (repeat first | simp only [List.set_cons_succ] | simp only [List.set_cons_zero])
            refine wpAnyH_ready (rs := [5]) (by kernel_rfl) (by simp) ?_
            refine AllReadyH.cons rfl (fun K hK => ?_) AllReadyH.nil
            obtain ⟨g, cap2, W2, hap2, own2, kk2, hc1, hc2, hgl⟩ := pick_app2 (W0 := (wr.alloc (.cells #[.int .i64 0, .int .i64 who, .int .i64 n, .slice pa pl pc] 62)).drew) (own1.alloc _) nn1 (kk1.alloc (.cells #[.int .i64 (-77)] 2)) (cell_cells (heap_alloc_new W1 _) rfl) hpl2
            try simp only [World.size_alloc, size_drew] at hap2
            refine step_append_run rfl (.tmp 84) (.tmp 85) _ (by rfl) _ _ _ W2 (by rfl) (by rfl) hap2 ?_
            refine hK.out _ _ ?_ (fun hHeld => ?_)
            · exact kk2.cell hCo (fun e => e)
            clear hK K
            (try simp only [Act.put]); (try simp only [List.setIfInBounds_toArray]); (repeat first | simp only [List.set_cons_succ] | simp only [List.set_cons_zero])
            have hcI : (pl : Int) ≤ (cap2 : Int) := by omega
            have hp0 : (0 : Int) ≤ (pl : Int) := by omega
            refine wpAnyH_take (i := 9) (v := ?_) rfl (by kernel_rfl) (by kernel_rfl) (by kernel_rfl) (fun _ _ _ h => h) (Or.inl ⟨by rfl, ?_⟩) hHeld ?_
            rotate_left
            · intro wx hSw; go_simp <;> with_reducible rfl
            (try simp only [Act.put]); (try simp only [List.setIfInBounds_toArray]); (repeat first | simp only [List.set_cons_succ] | simp only [List.set_cons_zero])
            refine wpAnyH_take (i := 10) (v := ?_) rfl (by kernel_rfl) (by kernel_rfl) (by kernel_rfl) (fun _ _ _ h => h) (Or.inl ⟨by rfl, ?_⟩) hHeld ?_
            rotate_left
            · intro wx hSw; go_simp <;> with_reducible rfl
            (try simp only [Act.put]); (try simp only [List.setIfInBounds_toArray]); (repeat first | simp only [List.set_cons_succ] | simp only [List.set_cons_zero])
            refine wpAnyH_done (by kernel_rfl) ?_ _
            (try simp only [Exit.then])
            obtain ⟨wo, rfl⟩ : ∃ wo, wo = wr := ⟨_, rfl⟩
            have KW : Keeps (fun _ => False) wo W2 := ((K0 _).drew).trans kk2
            have hS2 := HS.out.new KW
            obtain ⟨pc0, pcm, pfz⟩ := pick_cells own2
            have HOB := (kk2.block wo.heap.size (by simp) (fun e => e)).trans HO.out
            have o2 : W2.cell? ⟨wo.heap.size, 2, none⟩ = some (.int .i64 n) := cell_cells HOB rfl
            have o3 : W2.cell? ⟨wo.heap.size, 3, none⟩ = some (.slice pa pl pc) := cell_cells HOB rfl
            have hg1 : wo.heap.size + 1 ≤ g := by simpa using hgl
            have hglt : g < W2.heap.size := owns_lt' own2 g rfl
            have nl2 : NL W2 (some ⟨g, 0, none⟩) pl z := by
              by_cases h0 : pl = 0
              · exact .inl h0
              · exact .inr ⟨g, 0, rfl, hglt, fun i hi => by rw [Nat.zero_add]; exact pc0 i hi⟩
            have hc1I : (pl : Int) + 1 ≤ (cap2 : Int) := by omega
            have hcm : (cap2 : Int) ≤ 9223372036854775807 := by unfold maxLen at hc2; omega
            clear hap1 own1 nn1 kk1 kg1 hap2 kk2 HOB hgl hHeld hCo NLd HO e0 e1 e2 e3 hw hnI
            by_cases hz : rfz n pl = 0
            · obtain ⟨hnb, hm4⟩ := rfzZero hz
              obtain ⟨nt, rfl⟩ : ∃ nt : Nat, n = (nt : Int) := ⟨n.toNat, by omega⟩
              have hNew := new_any nl2 cap2 (nt := nt) ⟨by omega, by omega⟩ hm4
              have HREF : Hid (∀ W, Keeps (fun _ => False) W2 W → Calls Try.prog 19 #[.int .i64 (nt : Int), .slice pa pl pc] W fun e w' => ∃ rb vp ve, e = .returned (.tuple #[.pointer (some ⟨rb, 0, none⟩), .int .i64 0]) ∧ RN W w' rb vp ve nt pl z) := fun W k => rnew_any ((HNL.out.new KW).new k) pc ⟨by omega, by omega⟩ hm4
              clear hz
              have HNB : Hid ((1 : Int) ≤ nt ∧ (nt : Int) ≤ 6) := hnb
              clear hnb
              go_wp2_with (first | (go_at_call 6; refine hNew.mono ?_; clear hNew; rintro e w5 ⟨pb5, vs5, rfl, hP5, hlp5, hlv5, k5⟩; have x2 := k5.cell o2 (fun e => e); have x3 := k5.cell o3 (fun e => e); have xm := k5.cell pcm (fun e => e)) | (go_at_call 19; refine (HREF.out w5 k5).mono ?_; rintro e w6 ⟨rb6, vp6, ve6, rfl, hN6⟩))
              have KX : Hid (Keeps (fun _ => False) W2 w6) := k5.trans hN6.kp
              have hlow : ∀ k, (⟨pb5, vs5, rb6, vp6, ve6, nt, pl, z, 0, fun _ => false⟩ : Pr).Blk k → g < k := fun k hk => by
                have s5 := k5.size
                rcases hk with (hk | hk) | hk
                · have h9 : k = pb5 := hk
                  omega
                · have := hlv5 k hk; omega
                · have := hN6.lb k hk; omega
              have hI6 : PrI w6 ⟨pb5, vs5, rb6, vp6, ve6, nt, pl, z, 0, fun _ => false⟩ := ⟨hP5.new hN6.kp, hN6.rl, fun k hk e => by
                have := hN6.lb k e
                rcases hk with hk | hk
                · have h9 : k = pb5 := hk
                  have := hP5.lt; omega
                · have := owns_lt' hP5.nm k hk; omega, (by have := HNB.out; show nt ≤ 6; omega), hm4, Nat.zero_le _⟩
              clear hP5 hlp5 hlv5 hN6 x2 x3 xm k5
              go_loopw [17] (fun i W => ∃ t : Nat, t ≤ pl ∧ i = .int .i64 (t : Int) ∧ Keeps (fun k => k = g) w6 W ∧ (∀ u, t ≤ u → u < pl → W.cell? ⟨g, u, none⟩ = some (.int .i64 (z u))) ∧ (∀ u, W.frozen? ⟨g, u, none⟩ = false)) (fun i _ => pl - (intOf i).toNat)
              case atStart => exact ⟨0, Nat.zero_le _, rfl, Keeps.refl _ _, fun u _ hu => KX.out.cell (pc0 u hu) (fun e => e), fun u => (KX.out.frozen (p := ⟨g, u, none⟩) hglt (fun e => e)).trans (pfz u)⟩
              case round =>
                obtain ⟨t, htp, rfl, kI, hcs, hfz⟩ := hrel
                by_cases htl : t < pl
                · obtain ⟨b', o', rfl, hb', hpc'⟩ := HNL.out.some (by omega)
                  have htI : (t : Int) < (pl : Int) := by omega
                  have ht0 : (0 : Int) ≤ (t : Int) := by omega
                  have d1 := hcs t (Nat.le_refl _) htl
                  have dz := hfz t
                  have d2 := kI.cell (KX.out.cell o3 (fun e => e)) (by show ¬ wo.heap.size = g; omega)
                  have d3 := kI.cell (KX.out.cell (KW.cell (hpc' t htl) (fun e => e)) (fun e => e)) (by show ¬ b' = g; omega)
                  have hcap : (pl : Int) ≤ (cap2 : Int) := by omega
                  have HCS : Hid (∀ u, t ≤ u → u < pl → wr.cell? ⟨g, u, none⟩ = some (.int .i64 (z u))) := hcs
                  have HFZ : Hid (∀ u, wr.frozen? ⟨g, u, none⟩ = false) := hfz
                  clear hcs hfz hpc'
                  go_wp2
                  go_region
                  go_wp2
                  go_roundw
                  case rel => exact ⟨t + 1, by omega, by go_num, (kI.drew).setCell (p := ⟨g, t, none⟩) (fun _ => rfl) _, fun u h1 h2 => (by show World.cell? (wr.setCell ⟨g, t, none⟩ _) ⟨g, u, none⟩ = _; rw [World.cell?_setCell_other (h := fun e => by simp only [Addr.mk.injEq] at e; omega)]; exact HCS.out u (by omega) h2), fun u => (by show World.frozen? (wr.setCell ⟨g, t, none⟩ _) ⟨g, u, none⟩ = _; rw [World.frozen?_setCell]; exact HFZ.out u)⟩
                  case measure => simp [intOf]; omega
                · have htI : ¬ (t : Int) < (pl : Int) := by omega
                  have htb : decide (t < pl) = false := decide_eq_false htl
                  clear hcs hfz
                  have hS7 := (hS2.new KX.out).keeps kI (fun i hi e => by have := HS.out.lt hi; omega) (fun i hi e => by have := HS.out.kp.size; omega)
                  have hI7 := hI6.keeps kI (fun i hi e => by have := hlow i hi; omega)
                  obtain ⟨v7, w7, hr7, ow7, gr7, at7⟩ := app_l hS7.rl (by omega) pb5
                  have k7 : Keeps (fun k => (Value.slice (some ⟨gl, 0, none⟩) ps.length cl).ownBlock = some k) wr w7 := ((Keeps.refl (fun _ => False) wr).alloc _).trans' ((Keeps.refl _ _).grown gr7 (S := fun k => (Value.slice (some ⟨gl, 0, none⟩) ps.length cl).ownBlock = some k) (fun _ _ e => e)) (fun _ _ e => e.elim) (fun _ _ e => e)
                  have rt7 := k7.owns hS7.rt (fun gg e e' => by have h8 := hS7.r0 gg e'; have h9 := hS7.r1 gg e; omega)
                  obtain ⟨v8, w8, hr8, ow8, gr8, at8⟩ := app_r rt7 (by omega) rb6
                  obtain ⟨ρ9, hS9⟩ := hS7.add hI7 (S := wo.heap.size) (fun k hk => HS.out.lt hk) (fun k hk => by have := hlow k hk; omega) HS.out.kp.size ((Keeps.refl _ wr).alloc _) gr7 ow7 at7 ((Keeps.refl _ w7).alloc _) gr8 ow8 at8
                  have HS9 : Hid (PS w w8 ρ9 v7 v8 (ps ++ [⟨pb5, vs5, rb6, vp6, ve6, nt, pl, z, 0, fun _ => false⟩])) := hS9
                  have HR7 := (show Hid _ from hr7)
                  clear hS9 hS7 hI7 ow7 gr7 at7 ow8 gr8 at8 rt7 k7 hI6
                  go_wp2_with (first | (at_builtin; refine wpList_append_run rfl _ _ _ rfl _ _ v7 w7 rfl rfl hr7 ?_; clear hr7) | (at_builtin; refine wpList_append_run rfl _ _ _ rfl _ _ v8 w8 rfl rfl hr8 ?_; clear hr8))
                  go_roundw
                  case rel => exact ⟨j + 1, ρ9, _, by omega, by go_num, by simp; omega, HS9.out⟩
                  case measure => simp [intOf]; omega
            · have hNew := (new_no W2 n (some ⟨g, 0, none⟩) pl cap2 hz).mono (R' := fun e w' => e = .returned (.tuple #[.pointer none, .int .i64 (rfz n pl)]) ∧ W2 = w') (fun e w' h => ⟨h.1, h.2.symm⟩)
              have hRef := fun W => (rnew_no W n pa pl pc hz).mono (R' := fun e w' => e = .returned (.tuple #[.pointer none, .int .i64 (rfz n pl)]) ∧ W = w') (fun e w' h => ⟨h.1, h.2.symm⟩)
              have KX : Hid (Keeps (fun _ => False) W2 W2) := Keeps.refl _ W2
              have hrb : (rfz n pl != 0) = true := by simpa using hz
              generalize rfz n pl = r at *
              clear hz
              go_wp2_with (first | (go_at_call 6; refine hNew.mono ?_; clear hNew; rintro e w5 ⟨rfl, rfl⟩) | (go_at_call 19; refine (hRef _).mono ?_; rintro e w5 ⟨rfl, rfl⟩))
              go_loopw [17] (fun i W => ∃ t : Nat, t ≤ pl ∧ i = .int .i64 (t : Int) ∧ Keeps (fun k => k = g) W2 W ∧ (∀ u, t ≤ u → u < pl → W.cell? ⟨g, u, none⟩ = some (.int .i64 (z u))) ∧ (∀ u, W.frozen? ⟨g, u, none⟩ = false)) (fun i _ => pl - (intOf i).toNat)
              case atStart => exact ⟨0, Nat.zero_le _, rfl, Keeps.refl _ _, fun u _ hu => KX.out.cell (pc0 u hu) (fun e => e), fun u => (KX.out.frozen (p := ⟨g, u, none⟩) hglt (fun e => e)).trans (pfz u)⟩
              case round =>
                obtain ⟨t, htp, rfl, kI, hcs, hfz⟩ := hrel
                by_cases htl : t < pl
                · obtain ⟨b', o', rfl, hb', hpc'⟩ := HNL.out.some (by omega)
                  have htI : (t : Int) < (pl : Int) := by omega
                  have ht0 : (0 : Int) ≤ (t : Int) := by omega
                  have d1 := hcs t (Nat.le_refl _) htl
                  have dz := hfz t
                  have d2 := kI.cell (KX.out.cell o3 (fun e => e)) (by show ¬ wo.heap.size = g; omega)
                  have d3 := kI.cell (KX.out.cell (KW.cell (hpc' t htl) (fun e => e)) (fun e => e)) (by show ¬ b' = g; omega)
                  have hcap : (pl : Int) ≤ (cap2 : Int) := by omega
                  have HCS : Hid (∀ u, t ≤ u → u < pl → wr.cell? ⟨g, u, none⟩ = some (.int .i64 (z u))) := hcs
                  have HFZ : Hid (∀ u, wr.frozen? ⟨g, u, none⟩ = false) := hfz
                  clear hcs hfz hpc'
                  go_wp2
                  go_region
                  go_wp2
                  go_roundw
                  case rel => exact ⟨t + 1, by omega, by go_num, (kI.drew).setCell (p := ⟨g, t, none⟩) (fun _ => rfl) _, fun u h1 h2 => (by show World.cell? (wr.setCell ⟨g, t, none⟩ _) ⟨g, u, none⟩ = _; rw [World.cell?_setCell_other (h := fun e => by simp only [Addr.mk.injEq] at e; omega)]; exact HCS.out u (by omega) h2), fun u => (by show World.frozen? (wr.setCell ⟨g, t, none⟩ _) ⟨g, u, none⟩ = _; rw [World.frozen?_setCell]; exact HFZ.out u)⟩
                  case measure => simp [intOf]; omega
                · have htI : ¬ (t : Int) < (pl : Int) := by omega
                  have htb : decide (t < pl) = false := decide_eq_false htl
                  clear hcs hfz
                  have hS7 := (hS2.new KX.out).keeps kI (fun i hi e => by have := HS.out.lt hi; omega) (fun i hi e => by have := HS.out.kp.size; omega)
                  have HS9 : Hid (PS w wr ρ (.slice (some ⟨gl, 0, none⟩) ps.length cl) (.slice (some ⟨gt, 0, none⟩) ps.length ct) ps) := hS7
                  clear hS7
                  go_wp2
                  go_roundw
                  case rel => exact ⟨j + 1, ρ, ps, by omega, by go_num, by omega, HS9.out⟩
                  case measure => simp [intOf]; omega
          ·
            go_simp
            refine hK.out _ _ ?_ (fun hHeld => ?_)
            · exact ((Keeps.refl (fun _ => False) _).alloc _).cell hHeld (fun e => e)
            clear hK K
            (try simp only [Act.put]); (try simp only [List.setIfInBounds_toArray]); (repeat first | simp only [List.set_cons_succ] | simp only [List.set_cons_zero])
            refine wpAnyH_ready (rs := [3]) (by kernel_rfl) (by simp) ?_
            refine AllReadyH.cons rfl (fun K hK => ?_) AllReadyH.nil
            obtain ⟨v1, W1, hap1, own1, nn1, kk1, kg1⟩ := pick_app1 (W0 := (wr.alloc (.cells #[.int .i64 0, .int .i64 who, .int .i64 n, .slice pa pl pc] 62)).drew) (((Keeps.refl (fun _ => False) (wr.alloc (.cells #[.int .i64 0, .int .i64 who, .int .i64 n, .slice pa pl pc] 62)).drew).alloc (.cells #[] 2)).alloc (.cells #[.int .i64 (-77)] 2)) ((Below.heap_alloc (World.alloc (wr.alloc (.cells #[.int .i64 0, .int .i64 who, .int .i64 n, .slice pa pl pc] 62)).drew (.cells #[] 2)) (.cells #[.int .i64 (-77)] 2) (wr.alloc (.cells #[.int .i64 0, .int .i64 who, .int .i64 n, .slice pa pl pc] 62)).drew.heap.size (by simp)).trans (heap_alloc_new (wr.alloc (.cells #[.int .i64 0, .int .i64 who, .int .i64 n, .slice pa pl pc] 62)).drew (.cells #[] 2))) (by first | exact Nat.le_refl _ | simp) NLd.out hpl2 pc
            try simp only [World.size_alloc, size_drew] at hap1
            refine step_append_run rfl (.tmp 81) (.tmp 83) _ (by rfl) _ _ v1 W1 (by rfl) (by rfl) hap1 ?_
            refine hK.out _ _ ?_ (fun hHeld => ?_)
            · exact kk1.cell hCo (fun e => e)
            clear hK K
            (try simp only [Act.put]); (try simp only [List.setIfInBounds_toArray]); (repeat first | simp only [List.set_cons_succ] | simp only [List.set_cons_zero])
            refine wpAnyH_ready (rs := [5]) (by kernel_rfl) (by simp) ?_
            refine AllReadyH.cons rfl (fun K hK => ?_) AllReadyH.nil
            obtain ⟨g, cap2, W2, hap2, own2, kk2, hc1, hc2, hgl⟩ := pick_app2 (W0 := (wr.alloc (.cells #[.int .i64 0, .int .i64 who, .int .i64 n, .slice pa pl pc] 62)).drew) own1 nn1 kk1 (kg1.cell (cell_cells (heap_alloc_new (World.alloc (wr.alloc (.cells #[.int .i64 0, .int .i64 who, .int .i64 n, .slice pa pl pc] 62)).drew (.cells #[] 2)) (.cells #[.int .i64 (-77)] 2)) rfl) (by show ¬ (World.alloc (wr.alloc (.cells #[.int .i64 0, .int .i64 who, .int .i64 n, .slice pa pl pc] 62)).drew (.cells #[] 2)).heap.size = _; simp)) hpl2
            try simp only [World.size_alloc, size_drew] at hap2
            refine step_append_run rfl (.tmp 84) (.tmp 85) _ (by rfl) _ _ _ W2 (by rfl) (by rfl) hap2 ?_
            refine hK.out _ _ ?_ (fun hHeld => ?_)
            · exact kk2.cell hCo (fun e => e)
            clear hK K
            (try simp only [Act.put]); (try simp only [List.setIfInBounds_toArray]); (repeat first | simp only [List.set_cons_succ] | simp only [List.set_cons_zero])
            have hcI : (pl : Int) ≤ (cap2 : Int) := by omega
            have hp0 : (0 : Int) ≤ (pl : Int) := by omega
            refine wpAnyH_take (i := 9) (v := ?_) rfl (by kernel_rfl) (by kernel_rfl) (by kernel_rfl) (fun _ _ _ h => h) (Or.inl ⟨by rfl, ?_⟩) hHeld ?_
            rotate_left
            · intro wx hSw; go_simp <;> with_reducible rfl
            (try simp only [Act.put]); (try simp only [List.setIfInBounds_toArray]); (repeat first | simp only [List.set_cons_succ] | simp only [List.set_cons_zero])
            refine wpAnyH_take (i := 10) (v := ?_) rfl (by kernel_rfl) (by kernel_rfl) (by kernel_rfl) (fun _ _ _ h => h) (Or.inl ⟨by rfl, ?_⟩) hHeld ?_
            rotate_left
            · intro wx hSw; go_simp <;> with_reducible rfl
            (try simp only [Act.put]); (try simp only [List.setIfInBounds_toArray]); (repeat first | simp only [List.set_cons_succ] | simp only [List.set_cons_zero])
            refine wpAnyH_done (by kernel_rfl) ?_ _
            (try simp only [Exit.then])
            obtain ⟨wo, rfl⟩ : ∃ wo, wo = wr := ⟨_, rfl⟩
            have KW : Keeps (fun _ => False) wo W2 := ((K0 _).drew).trans kk2
            have hS2 := HS.out.new KW
            obtain ⟨pc0, pcm, pfz⟩ := pick_cells own2
            have HOB := (kk2.block wo.heap.size (by simp) (fun e => e)).trans HO.out
            have o2 : W2.cell? ⟨wo.heap.size, 2, none⟩ = some (.int .i64 n) := cell_cells HOB rfl
            have o3 : W2.cell? ⟨wo.heap.size, 3, none⟩ = some (.slice pa pl pc) := cell_cells HOB rfl
            have hg1 : wo.heap.size + 1 ≤ g := by simpa using hgl
            have hglt : g < W2.heap.size := owns_lt' own2 g rfl
            have nl2 : NL W2 (some ⟨g, 0, none⟩) pl z := by
              by_cases h0 : pl = 0
              · exact .inl h0
              · exact .inr ⟨g, 0, rfl, hglt, fun i hi => by rw [Nat.zero_add]; exact pc0 i hi⟩
            have hc1I : (pl : Int) + 1 ≤ (cap2 : Int) := by omega
            have hcm : (cap2 : Int) ≤ 9223372036854775807 := by unfold maxLen at hc2; omega
            clear hap1 own1 nn1 kk1 kg1 hap2 kk2 HOB hgl hHeld hCo NLd HO e0 e1 e2 e3 hw hnI
            by_cases hz : rfz n pl = 0
            · obtain ⟨hnb, hm4⟩ := rfzZero hz
              obtain ⟨nt, rfl⟩ : ∃ nt : Nat, n = (nt : Int) := ⟨n.toNat, by omega⟩
              have hNew := new_any nl2 cap2 (nt := nt) ⟨by omega, by omega⟩ hm4
              have HREF : Hid (∀ W, Keeps (fun _ => False) W2 W → Calls Try.prog 19 #[.int .i64 (nt : Int), .slice pa pl pc] W fun e w' => ∃ rb vp ve, e = .returned (.tuple #[.pointer (some ⟨rb, 0, none⟩), .int .i64 0]) ∧ RN W w' rb vp ve nt pl z) := fun W k => rnew_any ((HNL.out.new KW).new k) pc ⟨by omega, by omega⟩ hm4
              clear hz
              have HNB : Hid ((1 : Int) ≤ nt ∧ (nt : Int) ≤ 6) := hnb
              clear hnb
              go_wp2_with (first | (go_at_call 6; refine hNew.mono ?_; clear hNew; rintro e w5 ⟨pb5, vs5, rfl, hP5, hlp5, hlv5, k5⟩; have x2 := k5.cell o2 (fun e => e); have x3 := k5.cell o3 (fun e => e); have xm := k5.cell pcm (fun e => e)) | (go_at_call 19; refine (HREF.out w5 k5).mono ?_; rintro e w6 ⟨rb6, vp6, ve6, rfl, hN6⟩))
              have KX : Hid (Keeps (fun _ => False) W2 w6) := k5.trans hN6.kp
              have hlow : ∀ k, (⟨pb5, vs5, rb6, vp6, ve6, nt, pl, z, 0, fun _ => false⟩ : Pr).Blk k → g < k := fun k hk => by
                have s5 := k5.size
                rcases hk with (hk | hk) | hk
                · have h9 : k = pb5 := hk
                  omega
                · have := hlv5 k hk; omega
                · have := hN6.lb k hk; omega
              have hI6 : PrI w6 ⟨pb5, vs5, rb6, vp6, ve6, nt, pl, z, 0, fun _ => false⟩ := ⟨hP5.new hN6.kp, hN6.rl, fun k hk e => by
                have := hN6.lb k e
                rcases hk with hk | hk
                · have h9 : k = pb5 := hk
                  have := hP5.lt; omega
                · have := owns_lt' hP5.nm k hk; omega, (by have := HNB.out; show nt ≤ 6; omega), hm4, Nat.zero_le _⟩
              clear hP5 hlp5 hlv5 hN6 x2 x3 xm k5
              go_loopw [17] (fun i W => ∃ t : Nat, t ≤ pl ∧ i = .int .i64 (t : Int) ∧ Keeps (fun k => k = g) w6 W ∧ (∀ u, t ≤ u → u < pl → W.cell? ⟨g, u, none⟩ = some (.int .i64 (z u))) ∧ (∀ u, W.frozen? ⟨g, u, none⟩ = false)) (fun i _ => pl - (intOf i).toNat)
              case atStart => exact ⟨0, Nat.zero_le _, rfl, Keeps.refl _ _, fun u _ hu => KX.out.cell (pc0 u hu) (fun e => e), fun u => (KX.out.frozen (p := ⟨g, u, none⟩) hglt (fun e => e)).trans (pfz u)⟩
              case round =>
                obtain ⟨t, htp, rfl, kI, hcs, hfz⟩ := hrel
                by_cases htl : t < pl
                · obtain ⟨b', o', rfl, hb', hpc'⟩ := HNL.out.some (by omega)
                  have htI : (t : Int) < (pl : Int) := by omega
                  have ht0 : (0 : Int) ≤ (t : Int) := by omega
                  have d1 := hcs t (Nat.le_refl _) htl
                  have dz := hfz t
                  have d2 := kI.cell (KX.out.cell o3 (fun e => e)) (by show ¬ wo.heap.size = g; omega)
                  have d3 := kI.cell (KX.out.cell (KW.cell (hpc' t htl) (fun e => e)) (fun e => e)) (by show ¬ b' = g; omega)
                  have hcap : (pl : Int) ≤ (cap2 : Int) := by omega
                  have HCS : Hid (∀ u, t ≤ u → u < pl → wr.cell? ⟨g, u, none⟩ = some (.int .i64 (z u))) := hcs
                  have HFZ : Hid (∀ u, wr.frozen? ⟨g, u, none⟩ = false) := hfz
                  clear hcs hfz hpc'
                  go_wp2
                  go_region
                  go_wp2
                  go_roundw
                  case rel => exact ⟨t + 1, by omega, by go_num, (kI.drew).setCell (p := ⟨g, t, none⟩) (fun _ => rfl) _, fun u h1 h2 => (by show World.cell? (wr.setCell ⟨g, t, none⟩ _) ⟨g, u, none⟩ = _; rw [World.cell?_setCell_other (h := fun e => by simp only [Addr.mk.injEq] at e; omega)]; exact HCS.out u (by omega) h2), fun u => (by show World.frozen? (wr.setCell ⟨g, t, none⟩ _) ⟨g, u, none⟩ = _; rw [World.frozen?_setCell]; exact HFZ.out u)⟩
                  case measure => simp [intOf]; omega
                · have htI : ¬ (t : Int) < (pl : Int) := by omega
                  have htb : decide (t < pl) = false := decide_eq_false htl
                  clear hcs hfz
                  have hS7 := (hS2.new KX.out).keeps kI (fun i hi e => by have := HS.out.lt hi; omega) (fun i hi e => by have := HS.out.kp.size; omega)
                  have hI7 := hI6.keeps kI (fun i hi e => by have := hlow i hi; omega)
                  obtain ⟨v7, w7, hr7, ow7, gr7, at7⟩ := app_l hS7.rl (by omega) pb5
                  have k7 : Keeps (fun k => (Value.slice (some ⟨gl, 0, none⟩) ps.length cl).ownBlock = some k) wr w7 := ((Keeps.refl (fun _ => False) wr).alloc _).trans' ((Keeps.refl _ _).grown gr7 (S := fun k => (Value.slice (some ⟨gl, 0, none⟩) ps.length cl).ownBlock = some k) (fun _ _ e => e)) (fun _ _ e => e.elim) (fun _ _ e => e)
                  have rt7 := k7.owns hS7.rt (fun gg e e' => by have h8 := hS7.r0 gg e'; have h9 := hS7.r1 gg e; omega)
                  obtain ⟨v8, w8, hr8, ow8, gr8, at8⟩ := app_r rt7 (by omega) rb6
                  obtain ⟨ρ9, hS9⟩ := hS7.add hI7 (S := wo.heap.size) (fun k hk => HS.out.lt hk) (fun k hk => by have := hlow k hk; omega) HS.out.kp.size ((Keeps.refl _ wr).alloc _) gr7 ow7 at7 ((Keeps.refl _ w7).alloc _) gr8 ow8 at8
                  have HS9 : Hid (PS w w8 ρ9 v7 v8 (ps ++ [⟨pb5, vs5, rb6, vp6, ve6, nt, pl, z, 0, fun _ => false⟩])) := hS9
                  have HR7 := (show Hid _ from hr7)
                  clear hS9 hS7 hI7 ow7 gr7 at7 ow8 gr8 at8 rt7 k7 hI6
                  go_wp2_with (first | (at_builtin; refine wpList_append_run rfl _ _ _ rfl _ _ v7 w7 rfl rfl hr7 ?_; clear hr7) | (at_builtin; refine wpList_append_run rfl _ _ _ rfl _ _ v8 w8 rfl rfl hr8 ?_; clear hr8))
                  go_roundw
                  case rel => exact ⟨j + 1, ρ9, _, by omega, by go_num, by simp; omega, HS9.out⟩
                  case measure => simp [intOf]; omega
            · have hNew := (new_no W2 n (some ⟨g, 0, none⟩) pl cap2 hz).mono (R' := fun e w' => e = .returned (.tuple #[.pointer none, .int .i64 (rfz n pl)]) ∧ W2 = w') (fun e w' h => ⟨h.1, h.2.symm⟩)
              have hRef := fun W => (rnew_no W n pa pl pc hz).mono (R' := fun e w' => e = .returned (.tuple #[.pointer none, .int .i64 (rfz n pl)]) ∧ W = w') (fun e w' h => ⟨h.1, h.2.symm⟩)
              have KX : Hid (Keeps (fun _ => False) W2 W2) := Keeps.refl _ W2
              have hrb : (rfz n pl != 0) = true := by simpa using hz
              generalize rfz n pl = r at *
              clear hz
              go_wp2_with (first | (go_at_call 6; refine hNew.mono ?_; clear hNew; rintro e w5 ⟨rfl, rfl⟩) | (go_at_call 19; refine (hRef _).mono ?_; rintro e w5 ⟨rfl, rfl⟩))
              go_loopw [17] (fun i W => ∃ t : Nat, t ≤ pl ∧ i = .int .i64 (t : Int) ∧ Keeps (fun k => k = g) W2 W ∧ (∀ u, t ≤ u → u < pl → W.cell? ⟨g, u, none⟩ = some (.int .i64 (z u))) ∧ (∀ u, W.frozen? ⟨g, u, none⟩ = false)) (fun i _ => pl - (intOf i).toNat)
              case atStart => exact ⟨0, Nat.zero_le _, rfl, Keeps.refl _ _, fun u _ hu => KX.out.cell (pc0 u hu) (fun e => e), fun u => (KX.out.frozen (p := ⟨g, u, none⟩) hglt (fun e => e)).trans (pfz u)⟩
              case round =>
                obtain ⟨t, htp, rfl, kI, hcs, hfz⟩ := hrel
                by_cases htl : t < pl
                · obtain ⟨b', o', rfl, hb', hpc'⟩ := HNL.out.some (by omega)
                  have htI : (t : Int) < (pl : Int) := by omega
                  have ht0 : (0 : Int) ≤ (t : Int) := by omega
                  have d1 := hcs t (Nat.le_refl _) htl
                  have dz := hfz t
                  have d2 := kI.cell (KX.out.cell o3 (fun e => e)) (by show ¬ wo.heap.size = g; omega)
                  have d3 := kI.cell (KX.out.cell (KW.cell (hpc' t htl) (fun e => e)) (fun e => e)) (by show ¬ b' = g; omega)
                  have hcap : (pl : Int) ≤ (cap2 : Int) := by omega
                  have HCS : Hid (∀ u, t ≤ u → u < pl → wr.cell? ⟨g, u, none⟩ = some (.int .i64 (z u))) := hcs
                  have HFZ : Hid (∀ u, wr.frozen? ⟨g, u, none⟩ = false) := hfz
                  clear hcs hfz hpc'
                  go_wp2
                  go_region
                  go_wp2
                  go_roundw
                  case rel => exact ⟨t + 1, by omega, by go_num, (kI.drew).setCell (p := ⟨g, t, none⟩) (fun _ => rfl) _, fun u h1 h2 => (by show World.cell? (wr.setCell ⟨g, t, none⟩ _) ⟨g, u, none⟩ = _; rw [World.cell?_setCell_other (h := fun e => by simp only [Addr.mk.injEq] at e; omega)]; exact HCS.out u (by omega) h2), fun u => (by show World.frozen? (wr.setCell ⟨g, t, none⟩ _) ⟨g, u, none⟩ = _; rw [World.frozen?_setCell]; exact HFZ.out u)⟩
                  case measure => simp [intOf]; omega
                · have htI : ¬ (t : Int) < (pl : Int) := by omega
                  have htb : decide (t < pl) = false := decide_eq_false htl
                  clear hcs hfz
                  have hS7 := (hS2.new KX.out).keeps kI (fun i hi e => by have := HS.out.lt hi; omega) (fun i hi e => by have := HS.out.kp.size; omega)
                  have HS9 : Hid (PS w wr ρ (.slice (some ⟨gl, 0, none⟩) ps.length cl) (.slice (some ⟨gt, 0, none⟩) ps.length ct) ps) := hS7
                  clear hS7
                  go_wp2
                  go_roundw
                  case rel => exact ⟨j + 1, ρ, ps, by omega, by go_num, by omega, HS9.out⟩
                  case measure => simp [intOf]; omega
        ·
          go_simp
          refine hK.out _ _ ?_ (fun hHeld => ?_)
          · exact ((Keeps.refl (fun _ => False) _).alloc _).cell hHeld (fun e => e)
          clear hK K
          (try simp only [Act.put]); (try simp only [List.setIfInBounds_toArray]); (repeat first | simp only [List.set_cons_succ] | simp only [List.set_cons_zero])
          refine wpAnyH_ready (rs := [0]) (by kernel_rfl) (by simp) ?_
          refine AllReadyH.cons rfl (fun K hK => ?_) AllReadyH.nil
          go_simp
          refine hK.out _ _ ?_ (fun hHeld => ?_)
          · exact ((Keeps.refl (fun _ => False) _).alloc _).cell hHeld (fun e => e)
          clear hK K
          (try simp only [Act.put]); (try simp only [List.setIfInBounds_toArray]); (repeat first | simp only [List.set_cons_succ] | simp only [List.set_cons_zero])
          refine wpAnyH_ready (rs := [3]) (by kernel_rfl) (by simp) ?_
          refine AllReadyH.cons rfl (fun K hK => ?_) AllReadyH.nil
          obtain ⟨v1, W1, hap1, own1, nn1, kk1, kg1⟩ := pick_app1 (W0 := (wr.alloc (.cells #[.int .i64 0, .int .i64 who, .int .i64 n, .slice pa pl pc] 62)).drew) (((Keeps.refl (fun _ => False) (wr.alloc (.cells #[.int .i64 0, .int .i64 who, .int .i64 n, .slice pa pl pc] 62)).drew).alloc (.cells #[.int .i64 (-77)] 2)).alloc (.cells #[] 2)) (heap_alloc_new (World.alloc (wr.alloc (.cells #[.int .i64 0, .int .i64 who, .int .i64 n, .slice pa pl pc] 62)).drew (.cells #[.int .i64 (-77)] 2)) (.cells #[] 2)) (by first | exact Nat.le_refl _ | simp) NLd.out hpl2 pc
          try simp only [World.size_alloc, size_drew] at hap1
          refine step_append_run rfl (.tmp 81) (.tmp 83) _ (by rfl) _ _ v1 W1 (by rfl) (by rfl) hap1 ?_
          refine hK.out _ _ ?_ (fun hHeld => ?_)
          · exact kk1.cell hCo (fun e => e)
          clear hK K
          (try simp only [Act.put]); (try simp only [List.setIfInBounds_toArray]); (repeat first | simp only [List.set_cons_succ] | simp only [List.set_cons_zero])
          refine wpAnyH_ready (rs := [5]) (by kernel_rfl) (by simp) ?_
          refine AllReadyH.cons rfl (fun K hK => ?_) AllReadyH.nil
          obtain ⟨g, cap2, W2, hap2, own2, kk2, hc1, hc2, hgl⟩ := pick_app2 (W0 := (wr.alloc (.cells #[.int .i64 0, .int .i64 who, .int .i64 n, .slice pa pl pc] 62)).drew) own1 nn1 kk1 (kg1.cell (((Keeps.refl (fun _ => False) _).alloc (.cells #[] 2)).cell (cell_cells (heap_alloc_new (wr.alloc (.cells #[.int .i64 0, .int .i64 who, .int .i64 n, .slice pa pl pc] 62)).drew (.cells #[.int .i64 (-77)] 2)) rfl) (fun e => e)) (by show ¬ (wr.alloc (.cells #[.int .i64 0, .int .i64 who, .int .i64 n, .slice pa pl pc] 62)).drew.heap.size = _; simp)) hpl2
          try simp only [World.size_alloc, size_drew] at hap2
          refine step_append_run rfl (.tmp 84) (.tmp 85) _ (by rfl) _ _ _ W2 (by rfl) (by rfl) hap2 ?_
          refine hK.out _ _ ?_ (fun hHeld => ?_)
          · exact kk2.cell hCo (fun e => e)
          clear hK K
          (try simp only [Act.put]); (try simp only [List.setIfInBounds_toArray]); (repeat first | simp only [List.set_cons_succ] | simp only [List.set_cons_zero])
          have hcI : (pl : Int) ≤ (cap2 : Int) := by omega
          have hp0 : (0 : Int) ≤ (pl : Int) := by omega
          refine wpAnyH_take (i := 9) (v := ?_) rfl (by kernel_rfl) (by kernel_rfl) (by kernel_rfl) (fun _ _ _ h => h) (Or.inl ⟨by rfl, ?_⟩) hHeld ?_
          rotate_left
          · intro wx hSw; go_simp <;> with_reducible rfl
          (try simp only [Act.put]); (try simp only [List.setIfInBounds_toArray]); (repeat first | simp only [List.set_cons_succ] | simp only [List.set_cons_zero])
          refine wpAnyH_take (i := 10) (v := ?_) rfl (by kernel_rfl) (by kernel_rfl) (by kernel_rfl) (fun _ _ _ h => h) (Or.inl ⟨by rfl, ?_⟩) hHeld ?_
          rotate_left
          · intro wx hSw; go_simp <;> with_reducible rfl
          (try simp only [Act.put]); (try simp only [List.setIfInBounds_toArray]); (repeat first | simp only [List.set_cons_succ] | simp only [List.set_cons_zero])
          refine wpAnyH_done (by kernel_rfl) ?_ _
          (try simp only [Exit.then])
          obtain ⟨wo, rfl⟩ : ∃ wo, wo = wr := ⟨_, rfl⟩
          have KW : Keeps (fun _ => False) wo W2 := ((K0 _).drew).trans kk2
          have hS2 := HS.out.new KW
          obtain ⟨pc0, pcm, pfz⟩ := pick_cells own2
          have HOB := (kk2.block wo.heap.size (by simp) (fun e => e)).trans HO.out
          have o2 : W2.cell? ⟨wo.heap.size, 2, none⟩ = some (.int .i64 n) := cell_cells HOB rfl
          have o3 : W2.cell? ⟨wo.heap.size, 3, none⟩ = some (.slice pa pl pc) := cell_cells HOB rfl
          have hg1 : wo.heap.size + 1 ≤ g := by simpa using hgl
          have hglt : g < W2.heap.size := owns_lt' own2 g rfl
          have nl2 : NL W2 (some ⟨g, 0, none⟩) pl z := by
            by_cases h0 : pl = 0
            · exact .inl h0
            · exact .inr ⟨g, 0, rfl, hglt, fun i hi => by rw [Nat.zero_add]; exact pc0 i hi⟩
          have hc1I : (pl : Int) + 1 ≤ (cap2 : Int) := by omega
          have hcm : (cap2 : Int) ≤ 9223372036854775807 := by unfold maxLen at hc2; omega
          clear hap1 own1 nn1 kk1 kg1 hap2 kk2 HOB hgl hHeld hCo NLd HO e0 e1 e2 e3 hw hnI
          by_cases hz : rfz n pl = 0
          · obtain ⟨hnb, hm4⟩ := rfzZero hz
            obtain ⟨nt, rfl⟩ : ∃ nt : Nat, n = (nt : Int) := ⟨n.toNat, by omega⟩
            have hNew := new_any nl2 cap2 (nt := nt) ⟨by omega, by omega⟩ hm4
            have HREF : Hid (∀ W, Keeps (fun _ => False) W2 W → Calls Try.prog 19 #[.int .i64 (nt : Int), .slice pa pl pc] W fun e w' => ∃ rb vp ve, e = .returned (.tuple #[.pointer (some ⟨rb, 0, none⟩), .int .i64 0]) ∧ RN W w' rb vp ve nt pl z) := fun W k => rnew_any ((HNL.out.new KW).new k) pc ⟨by omega, by omega⟩ hm4
            clear hz
            have HNB : Hid ((1 : Int) ≤ nt ∧ (nt : Int) ≤ 6) := hnb
            clear hnb
            go_wp2_with (first | (go_at_call 6; refine hNew.mono ?_; clear hNew; rintro e w5 ⟨pb5, vs5, rfl, hP5, hlp5, hlv5, k5⟩; have x2 := k5.cell o2 (fun e => e); have x3 := k5.cell o3 (fun e => e); have xm := k5.cell pcm (fun e => e)) | (go_at_call 19; refine (HREF.out w5 k5).mono ?_; rintro e w6 ⟨rb6, vp6, ve6, rfl, hN6⟩))
            have KX : Hid (Keeps (fun _ => False) W2 w6) := k5.trans hN6.kp
            have hlow : ∀ k, (⟨pb5, vs5, rb6, vp6, ve6, nt, pl, z, 0, fun _ => false⟩ : Pr).Blk k → g < k := fun k hk => by
              have s5 := k5.size
              rcases hk with (hk | hk) | hk
              · have h9 : k = pb5 := hk
                omega
              · have := hlv5 k hk; omega
              · have := hN6.lb k hk; omega
            have hI6 : PrI w6 ⟨pb5, vs5, rb6, vp6, ve6, nt, pl, z, 0, fun _ => false⟩ := ⟨hP5.new hN6.kp, hN6.rl, fun k hk e => by
              have := hN6.lb k e
              rcases hk with hk | hk
              · have h9 : k = pb5 := hk
                have := hP5.lt; omega
              · have := owns_lt' hP5.nm k hk; omega, (by have := HNB.out; show nt ≤ 6; omega), hm4, Nat.zero_le _⟩
            clear hP5 hlp5 hlv5 hN6 x2 x3 xm k5
            go_loopw [17] (fun i W => ∃ t : Nat, t ≤ pl ∧ i = .int .i64 (t : Int) ∧ Keeps (fun k => k = g) w6 W ∧ (∀ u, t ≤ u → u < pl → W.cell? ⟨g, u, none⟩ = some (.int .i64 (z u))) ∧ (∀ u, W.frozen? ⟨g, u, none⟩ = false)) (fun i _ => pl - (intOf i).toNat)
            case atStart => exact ⟨0, Nat.zero_le _, rfl, Keeps.refl _ _, fun u _ hu => KX.out.cell (pc0 u hu) (fun e => e), fun u => (KX.out.frozen (p := ⟨g, u, none⟩) hglt (fun e => e)).trans (pfz u)⟩
            case round =>
              obtain ⟨t, htp, rfl, kI, hcs, hfz⟩ := hrel
              by_cases htl : t < pl
              · obtain ⟨b', o', rfl, hb', hpc'⟩ := HNL.out.some (by omega)
                have htI : (t : Int) < (pl : Int) := by omega
                have ht0 : (0 : Int) ≤ (t : Int) := by omega
                have d1 := hcs t (Nat.le_refl _) htl
                have dz := hfz t
                have d2 := kI.cell (KX.out.cell o3 (fun e => e)) (by show ¬ wo.heap.size = g; omega)
                have d3 := kI.cell (KX.out.cell (KW.cell (hpc' t htl) (fun e => e)) (fun e => e)) (by show ¬ b' = g; omega)
                have hcap : (pl : Int) ≤ (cap2 : Int) := by omega
                have HCS : Hid (∀ u, t ≤ u → u < pl → wr.cell? ⟨g, u, none⟩ = some (.int .i64 (z u))) := hcs
                have HFZ : Hid (∀ u, wr.frozen? ⟨g, u, none⟩ = false) := hfz
                clear hcs hfz hpc'
                go_wp2
                go_region
                go_wp2
                go_roundw
                case rel => exact ⟨t + 1, by omega, by go_num, (kI.drew).setCell (p := ⟨g, t, none⟩) (fun _ => rfl) _, fun u h1 h2 => (by show World.cell? (wr.setCell ⟨g, t, none⟩ _) ⟨g, u, none⟩ = _; rw [World.cell?_setCell_other (h := fun e => by simp only [Addr.mk.injEq] at e; omega)]; exact HCS.out u (by omega) h2), fun u => (by show World.frozen? (wr.setCell ⟨g, t, none⟩ _) ⟨g, u, none⟩ = _; rw [World.frozen?_setCell]; exact HFZ.out u)⟩
                case measure => simp [intOf]; omega
              · have htI : ¬ (t : Int) < (pl : Int) := by omega
                have htb : decide (t < pl) = false := decide_eq_false htl
                clear hcs hfz
                have hS7 := (hS2.new KX.out).keeps kI (fun i hi e => by have := HS.out.lt hi; omega) (fun i hi e => by have := HS.out.kp.size; omega)
                have hI7 := hI6.keeps kI (fun i hi e => by have := hlow i hi; omega)
                obtain ⟨v7, w7, hr7, ow7, gr7, at7⟩ := app_l hS7.rl (by omega) pb5
                have k7 : Keeps (fun k => (Value.slice (some ⟨gl, 0, none⟩) ps.length cl).ownBlock = some k) wr w7 := ((Keeps.refl (fun _ => False) wr).alloc _).trans' ((Keeps.refl _ _).grown gr7 (S := fun k => (Value.slice (some ⟨gl, 0, none⟩) ps.length cl).ownBlock = some k) (fun _ _ e => e)) (fun _ _ e => e.elim) (fun _ _ e => e)
                have rt7 := k7.owns hS7.rt (fun gg e e' => by have h8 := hS7.r0 gg e'; have h9 := hS7.r1 gg e; omega)
                obtain ⟨v8, w8, hr8, ow8, gr8, at8⟩ := app_r rt7 (by omega) rb6
                obtain ⟨ρ9, hS9⟩ := hS7.add hI7 (S := wo.heap.size) (fun k hk => HS.out.lt hk) (fun k hk => by have := hlow k hk; omega) HS.out.kp.size ((Keeps.refl _ wr).alloc _) gr7 ow7 at7 ((Keeps.refl _ w7).alloc _) gr8 ow8 at8
                have HS9 : Hid (PS w w8 ρ9 v7 v8 (ps ++ [⟨pb5, vs5, rb6, vp6, ve6, nt, pl, z, 0, fun _ => false⟩])) := hS9
                have HR7 := (show Hid _ from hr7)
                clear hS9 hS7 hI7 ow7 gr7 at7 ow8 gr8 at8 rt7 k7 hI6
                go_wp2_with (first | (at_builtin; refine wpList_append_run rfl _ _ _ rfl _ _ v7 w7 rfl rfl hr7 ?_; clear hr7) | (at_builtin; refine wpList_append_run rfl _ _ _ rfl _ _ v8 w8 rfl rfl hr8 ?_; clear hr8))
                go_roundw
                case rel => exact ⟨j + 1, ρ9, _, by omega, by go_num, by simp; omega, HS9.out⟩
                case measure => simp [intOf]; omega
          · have hNew := (new_no W2 n (some ⟨g, 0, none⟩) pl cap2 hz).mono (R' := fun e w' => e = .returned (.tuple #[.pointer none, .int .i64 (rfz n pl)]) ∧ W2 = w') (fun e w' h => ⟨h.1, h.2.symm⟩)
            have hRef := fun W => (rnew_no W n pa pl pc hz).mono (R' := fun e w' => e = .returned (.tuple #[.pointer none, .int .i64 (rfz n pl)]) ∧ W = w') (fun e w' h => ⟨h.1, h.2.symm⟩)
            have KX : Hid (Keeps (fun _ => False) W2 W2) := Keeps.refl _ W2
            have hrb : (rfz n pl != 0) = true := by simpa using hz
            generalize rfz n pl = r at *
            clear hz
            go_wp2_with (first | (go_at_call 6; refine hNew.mono ?_; clear hNew; rintro e w5 ⟨rfl, rfl⟩) | (go_at_call 19; refine (hRef _).mono ?_; rintro e w5 ⟨rfl, rfl⟩))
            go_loopw [17] (fun i W => ∃ t : Nat, t ≤ pl ∧ i = .int .i64 (t : Int) ∧ Keeps (fun k => k = g) W2 W ∧ (∀ u, t ≤ u → u < pl → W.cell? ⟨g, u, none⟩ = some (.int .i64 (z u))) ∧ (∀ u, W.frozen? ⟨g, u, none⟩ = false)) (fun i _ => pl - (intOf i).toNat)
            case atStart => exact ⟨0, Nat.zero_le _, rfl, Keeps.refl _ _, fun u _ hu => KX.out.cell (pc0 u hu) (fun e => e), fun u => (KX.out.frozen (p := ⟨g, u, none⟩) hglt (fun e => e)).trans (pfz u)⟩
            case round =>
              obtain ⟨t, htp, rfl, kI, hcs, hfz⟩ := hrel
              by_cases htl : t < pl
              · obtain ⟨b', o', rfl, hb', hpc'⟩ := HNL.out.some (by omega)
                have htI : (t : Int) < (pl : Int) := by omega
                have ht0 : (0 : Int) ≤ (t : Int) := by omega
                have d1 := hcs t (Nat.le_refl _) htl
                have dz := hfz t
                have d2 := kI.cell (KX.out.cell o3 (fun e => e)) (by show ¬ wo.heap.size = g; omega)
                have d3 := kI.cell (KX.out.cell (KW.cell (hpc' t htl) (fun e => e)) (fun e => e)) (by show ¬ b' = g; omega)
                have hcap : (pl : Int) ≤ (cap2 : Int) := by omega
                have HCS : Hid (∀ u, t ≤ u → u < pl → wr.cell? ⟨g, u, none⟩ = some (.int .i64 (z u))) := hcs
                have HFZ : Hid (∀ u, wr.frozen? ⟨g, u, none⟩ = false) := hfz
                clear hcs hfz hpc'
                go_wp2
                go_region
                go_wp2
                go_roundw
                case rel => exact ⟨t + 1, by omega, by go_num, (kI.drew).setCell (p := ⟨g, t, none⟩) (fun _ => rfl) _, fun u h1 h2 => (by show World.cell? (wr.setCell ⟨g, t, none⟩ _) ⟨g, u, none⟩ = _; rw [World.cell?_setCell_other (h := fun e => by simp only [Addr.mk.injEq] at e; omega)]; exact HCS.out u (by omega) h2), fun u => (by show World.frozen? (wr.setCell ⟨g, t, none⟩ _) ⟨g, u, none⟩ = _; rw [World.frozen?_setCell]; exact HFZ.out u)⟩
                case measure => simp [intOf]; omega
              · have htI : ¬ (t : Int) < (pl : Int) := by omega
                have htb : decide (t < pl) = false := decide_eq_false htl
                clear hcs hfz
                have hS7 := (hS2.new KX.out).keeps kI (fun i hi e => by have := HS.out.lt hi; omega) (fun i hi e => by have := HS.out.kp.size; omega)
                have HS9 : Hid (PS w wr ρ (.slice (some ⟨gl, 0, none⟩) ps.length cl) (.slice (some ⟨gt, 0, none⟩) ps.length ct) ps) := hS7
                clear hS7
                go_wp2
                go_roundw
                case rel => exact ⟨j + 1, ρ, ps, by omega, by go_num, by omega, HS9.out⟩
                case measure => simp [intOf]; omega
      · have hkb : (kd != 0) = true := by simp [hk0]
        clear hEA
        obtain ⟨p, hp⟩ : ∃ p, ps[q]? = some p := ⟨ps[q], List.getElem?_eq_getElem hql⟩
        obtain ⟨cL, cT⟩ := hcells q p hp
        obtain ⟨nL, nT⟩ := hoff q p hp
        have hS1 := fun o => hS.new (((K0 o)).drew)
        have hpa := fun o => played_any ((hS1 o).each q p hp) kd who n pa pl pc
        have cL1 := fun o => ((K0 o).drew).cell cL (fun e => e)
        have cT1 := fun o => ((K0 o).drew).cell cT (fun e => e)
        have lob : ¬ p.Blk wr.heap.size := fun e => Nat.lt_irrefl _ ((hS.each q p hp).lt e)
        have q0 : (0 : Int) ≤ (q : Int) := by omega
        have q1 : (q : Int) < (ps.length : Int) := by omega
        have HS : Hid (PS w wr ρ (.slice (some ⟨gl, 0, none⟩) ps.length cl) (.slice (some ⟨gt, 0, none⟩) ps.length ct) ps) := hS
        have HS1 : Hid (∀ o, PS w (wr.alloc o).drew ρ (.slice (some ⟨gl, 0, none⟩) ps.length cl) (.slice (some ⟨gt, 0, none⟩) ps.length ct) ps) := hS1
        have HP := (show Hid (ps[q]? = some p) from hp)
        clear hS hS1 hp hcells hoff
        go_wp2
        rw [HQ.out]
        go_region_held3 (fun w' => w'.cell? ⟨wr.heap.size, 0, none⟩ = some (.int .i64 kd) ∧ w'.cell? ⟨wr.heap.size, 1, none⟩ = some (.int .i64 who) ∧ w'.cell? ⟨wr.heap.size, 2, none⟩ = some (.int .i64 n) ∧ w'.cell? ⟨wr.heap.size, 3, none⟩ = some (.slice pa pl pc) ∧ w'.cell? ⟨gl, q, none⟩ = some (.pointer (some ⟨p.pb, 0, none⟩)) ∧ w'.cell? ⟨gt, q, none⟩ = some (.pointer (some ⟨p.rb, 0, none⟩))) (first | (refine ⟨?_, ?_, ?_, ?_, ?_, ?_⟩ <;> assumption) | go_keep) ((go_at_call 20; refine (hpa _).mono ?_; rintro e w5 ⟨rfl, na, nf, hI5, k5⟩; have x0 := k5.cell (p := ⟨wr.heap.size, 0, none⟩) (v := .int .i64 kd) (by simp) lob; have x1 := k5.cell (p := ⟨wr.heap.size, 1, none⟩) (v := .int .i64 who) (by simp) lob; have x2 := k5.cell (p := ⟨wr.heap.size, 2, none⟩) (v := .int .i64 n) (by simp) lob; have x3 := k5.cell (p := ⟨wr.heap.size, 3, none⟩) (v := .slice pa pl pc) (by simp) lob; have x4 := k5.cell (cL1 _) nL; have x5 := k5.cell (cT1 _) nT))
        go_wp2
        go_roundw
        case rel => exact ⟨j + 1, ρ, _, by omega, by go_num, by simp; omega, (HS1.out _).play HP.out hI5 k5⟩
        case measure => simp [intOf]; omega
    · have hltI : ¬ (j : Int) < (len : Int) := by omega
      have hjb : decide (j < len) = false := decide_eq_false hlt
      have hn0 := hS.ne
      have hNb : ps.length ≤ 1048577 := by omega
      clear hpl
      generalize hN : ps.length = N at hS hn0 hNb ⊢
      have HN0 : Hid (ps.length = N) := hN
      clear hN hcells hoff
      go_wp2
      go_loopw [18] (fun i W => ∃ (t : Nat) (ρ : Nat → Nat) (ps : List Pr), t ≤ N ∧ i = .int .i64 (t : Int) ∧ ps.length = N ∧ PS w W ρ (.slice (some ⟨gl, 0, none⟩) N cl) (.slice (some ⟨gt, 0, none⟩) N ct) ps) (fun i _ => N - (intOf i).toNat)
      case atStart => exact ⟨0, ρ, ps, Nat.zero_le _, rfl, HN0.out, hS⟩
      case round =>
        clear hS hn0 HN0
        obtain ⟨t, ρ', ps', htn, rfl, hN, hS⟩ := hrel
        by_cases hlt3 : t < N
        · have hltI3 : (t : Int) < (N : Int) := by omega
          have t0 : (0 : Int) ≤ (t : Int) := by omega
          obtain ⟨hcells, hoff⟩ := hS.at2
          obtain ⟨p, hp⟩ : ∃ p, ps'[t]? = some p := ⟨ps'[t]'(by omega), List.getElem?_eq_getElem (by omega)⟩
          obtain ⟨cL, cT⟩ := hcells t p hp
          obtain ⟨nL, nT⟩ := hoff t p hp
          have hS1 := hS.new ((Keeps.refl _ wr).drew)
          have hp4 := played_any (hS1.each t p hp) 4 0 0 none 0 0
          have HS1 : Hid (PS w wr.drew ρ' (.slice (some ⟨gl, 0, none⟩) N cl) (.slice (some ⟨gt, 0, none⟩) N ct) ps') := hS1
          have HP := (show Hid (ps'[t]? = some p) from hp)
          have HN := (show Hid (ps'.length = N) from hN)
          clear hS hS1 hp hcells hoff hN
          go_wp2
          go_region_held3 (fun w' => w'.cell? ⟨gl, t, none⟩ = some (.pointer (some ⟨p.pb, 0, none⟩)) ∧ w'.cell? ⟨gt, t, none⟩ = some (.pointer (some ⟨p.rb, 0, none⟩))) (first | (refine ⟨?_, ?_⟩ <;> assumption) | go_keep) (first | (go_at_call 20; refine hp4.mono ?_; clear hp4; rintro e w5 ⟨rfl, na, nf, hI5, k5⟩; have x4 := k5.cell (p := ⟨gl, t, none⟩) cL nL; have x5 := k5.cell (p := ⟨gt, t, none⟩) cT nT; have hp1 : Calls Try.prog 20 #[.agg #[.int .i64 1, .int .i64 0, .int .i64 0, .slice none 0 0], .pointer (some ⟨p.pb, 0, none⟩), .pointer (some ⟨p.rb, 0, none⟩)] w5 _ := played_any hI5 1 0 0 none 0 0) | (go_at_call 20; refine hp1.mono ?_; clear hp1; rintro e w6 ⟨rfl, na', nf', hI6, k6⟩; have x6 := k6.cell x4 nL; have x7 := k6.cell x5 nT))
          go_wp2
          go_roundw
          case rel => exact ⟨t + 1, ρ', _, by omega, by go_num, by have := HN.out; simpa using this, (HS1.out.play HP.out hI5 k5).play (p := p.to na nf) (set_get HP.out) hI6 k6⟩
          case measure => simp [intOf]; omega
        · have hltI3 : ¬ (t : Int) < (N : Int) := by omega
          have htb : decide (t < N) = false := decide_eq_false hlt3
          have kw := hS.kp
          clear hS
          have hz : PL (wr.alloc (.cells #[.int .i64 0, .slice none 0 0, .int .i64 0, .bool false, .bool false, .bool false, .bool false, .bool false, .bool false] 66)) wr.heap.size (.slice none 0 0) 0 0 (fun _ => 0) 0 (fun _ => false) :=
            ⟨cell_cells (heap_alloc_new wr _) rfl, cell_cells (heap_alloc_new wr _) rfl, cell_cells (heap_alloc_new wr _) rfl, fun u hu => (by rcases (by omega : u = 0 ∨ u = 1 ∨ u = 2 ∨ u = 3 ∨ u = 4 ∨ u = 5) with rfl | rfl | rfl | rfl | rfl | rfl <;> exact cell_cells (heap_alloc_new wr _) rfl), fun u _ => frozen_cells (heap_alloc_new wr _), World.ownsRow_nil _ _ _ _, fun g e => by cases e⟩
          have HZ : Hid (∀ W, Keeps (fun _ => False) (wr.alloc (.cells #[.int .i64 0, .slice none 0 0, .int .i64 0, .bool false, .bool false, .bool false, .bool false, .bool false, .bool false] 66)) W → PL W wr.heap.size (.slice none 0 0) 0 0 (fun _ => 0) 0 (fun _ => false)) := fun W k => hz.new k
          have hNz := next_done (w := wr.alloc (.cells #[.int .i64 0, .slice none 0 0, .int .i64 0, .bool false, .bool false, .bool false, .bool false, .bool false, .bool false] 66)) (p := some ⟨wr.heap.size, 0, none⟩) (fun o => left_any (hz.new ((Keeps.refl _ _).alloc o)) (Nat.le_refl _) (by omega))
          have hNn := fun W => next_done (w := W) (p := none) (fun o => (left_nil _).mono (by rintro e w' ⟨rfl, rfl⟩; exact ⟨rfl, Keeps.refl _ _⟩))
          have hFn := fun W => finished_not (w := W) (p := none) (t := 0) (has_nil W 0)
          have hGn := fun W => finish_not (w := W) (p := none) (t := 0) (has_nil W 0)
          have hLn := left_nil
          clear hz
          go_wp2_with (first | (go_at_call 9; refine hNz.mono ?_; clear hNz; rintro e w5 ⟨rfl, k5⟩) | (go_at_call 9; refine (hNn _).mono ?_; clear hNn; rintro e w6 ⟨rfl, k6⟩; have K6 : ∀ o, Keeps (fun _ => False) (wr.alloc (.cells #[.int .i64 0, .slice none 0 0, .int .i64 0, .bool false, .bool false, .bool false, .bool false, .bool false, .bool false] 66)) (w6.alloc o) := fun o => (k5.trans (((Keeps.refl _ w5).alloc _).trans k6)).alloc o; have hFz := fun o => finished_not (p := some ⟨wr.heap.size, 0, none⟩) (has_any (HZ.out _ (K6 o)) 0); have hGz := fun o => finish_not (p := some ⟨wr.heap.size, 0, none⟩) (has_any (HZ.out _ (K6 o)) 0); have hLz := fun o => left_any (HZ.out _ (K6 o)) (Nat.le_refl _) (by omega)) | (go_at_call 12; refine (hFz _).mono ?_; clear hFz; rintro e w7 ⟨rfl, hw7⟩; subst hw7) | (go_at_call 12; refine (hFn _).mono ?_; clear hFn; rintro e w7 ⟨rfl, hw7⟩; subst hw7) | (go_at_call 11; refine (hGz _).mono ?_; clear hGz; rintro e w7 ⟨rfl, hw7⟩; subst hw7) | (go_at_call 11; refine (hGn _).mono ?_; clear hGn; rintro e w7 ⟨rfl, hw7⟩; subst hw7) | (go_at_call 8; refine (hLz _).mono ?_; clear hLz; rintro e w8 ⟨rfl, k8⟩) | (go_at_call 8; refine (hLn _).mono ?_; clear hLn; rintro e w9 ⟨rfl, hw9⟩; subst hw9))
          go_ret
          exact ⟨rfl, (kw.trans (((Keeps.refl _ wr).alloc _).trans ((K6 _).trans k8))).below (Nat.le_refl _) (fun _ _ e => e)⟩
end Go.Proofs.Ytgfjhogogajbjab
