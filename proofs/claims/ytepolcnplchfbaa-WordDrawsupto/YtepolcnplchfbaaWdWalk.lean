import Derived.Test.YtepolcnplchfbaaWdPS2
namespace Go.Proofs.Ytepolcnplchfbaa
open Go.RowKit

theorem urem_five : urem ((fun i : Nat => ([5, -1] : List Int).getD i 0) 1) 10 = 5 := by
  show urem (-1) 10 = 5
  unfold urem
  rw [IntKind.wrap_u64, IntKind.wrap_u64]
  have e1 : (-1 : Int) % 18446744073709551616 = 18446744073709551615 := by omega
  have e2 : (10 : Int) % 18446744073709551616 = 10 := by omega
  have e3 : (18446744073709551615 : Int).tmod 10 = 5 := by rw [Int.tmod_eq_emod_of_nonneg (by omega)]; omega
  rw [e1, e2, e3]
  unfold wrap64
  omega
theorem in64_of {a : Int} (h : I64 a) : In64 a := by unfold I64 at h; unfold In64; exact h

set_option maxHeartbeats 6400000 in
set_option maxRecDepth 1000000 in
theorem draws_walk {w : World} {a : Option Addr} {len : Nat} {E : Nat → OE} (h1 : OPL w a len E) (hE : ∀ i, i < len → I64 (E i).who ∧ I64 (E i).n ∧ (E i).pl ≤ 1048576) (hb : len ≤ 1048576) (cap : Nat) :
    Calls Try.prog 3 #[.slice a len cap] w fun e w' => e = .returned (.bool true) ∧ Below w.heap.size w w' := by
  have hN0 : Calls Try.prog 6 #[.slice (some ⟨w.heap.size, 0, none⟩) 2 2] (w.alloc (.cells #[.int .i64 (-1), .int .i64 9] 2)) fun e w' => ∃ b r, e = .returned (.pointer (some ⟨b, 0, none⟩)) ∧ IsDr w' b r 2 (fun i => [-1, 9].getD i 0) 0 ∧ r ≠ b ∧ (w.alloc (.cells #[.int .i64 (-1), .int .i64 9] 2)).heap.size ≤ b ∧ (w.alloc (.cells #[.int .i64 (-1), .int .i64 9] 2)).heap.size ≤ r ∧ r < w'.heap.size ∧ Keeps (fun _ => False) (w.alloc (.cells #[.int .i64 (-1), .int .i64 9] 2)) w' := wnew (litNl w [-1, 9]) 2 (by simp)
  have hR0 : ∀ (W : World) (m : Nat), W.heap.size = m → Calls Try.prog 7 #[.slice (some ⟨m, 0, none⟩) 2 2] (W.alloc (.cells #[.int .i64 (-1), .int .i64 9] 2)) fun e w' => ∃ b a' cap', e = .returned (.pointer (some ⟨b, 0, none⟩)) ∧ IsRd w' b a' cap' 2 (fun i => [-1, 9].getD i 0) 0 ∧ (W.alloc (.cells #[.int .i64 (-1), .int .i64 9] 2)).heap.size ≤ b ∧ (∀ k, RawB a' 2 k → (W.alloc (.cells #[.int .i64 (-1), .int .i64 9] 2)).heap.size ≤ k ∧ k ≠ b) ∧ Keeps (fun _ => False) (W.alloc (.cells #[.int .i64 (-1), .int .i64 9] 2)) w' := fun W m hm => by subst hm; exact wrnew (litNl W [-1, 9]) 2 (by simp)
  go_enter Try.func3, Try.ntmps3
  go_wp2_with (first | (go_at_call 6; refine hN0.mono ?_; clear hN0; rintro e w1 ⟨pb, r, rfl, hD, hrb, hlb, hlr, hlt, k1⟩) | (go_at_call 7; refine (hR0 _ _ (by simp)).mono ?_; clear hR0; rintro e w2 ⟨rb, ra, rc, rfl, hR, hlrb, hlra, k2⟩))
  have k1' : Keeps (fun _ => False) w w1 := ((Keeps.refl _ w).alloc _).trans k1
  have k2' : Keeps (fun _ => False) (w1.alloc (.cells #[.pointer (some ⟨pb, 0, none⟩)] 23)) w2 := ((Keeps.refl _ _).alloc _).trans k2
  have k12 : Keeps (fun _ => False) w1 w2 := ((Keeps.refl _ w1).alloc _).trans k2'
  rw [World.size_alloc] at hlb hlr
  rw [World.size_alloc, World.size_alloc] at hlrb hlra
  have hI : WI w2 ⟨pb, r, rb, ra, rc, 2, fun i => [-1, 9].getD i 0, 0⟩ := ⟨hD.keeps k12 (fun e => e) (fun e => e), hR, hrb, fun k hk => (hlra k hk).2, fun k hk e => by
    have hb1 := World.block_lt_of_cell? _ _ hD.row
    have h3 : w1.heap.size + 1 + 1 ≤ k := by
      rcases e with e | e
      · have e' : k = rb := e
        omega
      · exact (hlra k e).1
    rcases hk with hk | hk
    · have hk' : k = pb := hk
      simp only at hb1
      omega
    · have hk' : k = r := hk
      omega, by have := k12.size; show r < w2.heap.size; omega⟩
  have s1 := k1'.size
  have s2 := k12.size
  have ol := World.ownsRow_lit (base := 0) (e := 23) (size := 1) w1 #[.pointer (some ⟨pb, 0, none⟩)] 1 (Nat.zero_le _) (by unfold maxLen; omega) rfl
  have ot := World.ownsRow_lit (base := 0) (e := 27) (size := 1) w2 #[.pointer (some ⟨rb, 0, none⟩)] 1 (Nat.zero_le _) (by unfold maxLen; omega) rfl
  have kz : Keeps (fun _ => False) w2 (w2.alloc (.cells #[.pointer (some ⟨rb, 0, none⟩)] 27)) := (Keeps.refl _ w2).alloc _
  have hlw := k2'.size
  rw [World.size_alloc] at hlw
  obtain ⟨ρ0, S0⟩ := PS.start2 (w := w) (hI.new kz) (kz.owns (k2'.owns ol (fun _ _ e => e)) (fun _ _ e => e)) ot (fun k hk => by
      have hl := hI.lt hk
      refine ⟨fun e => ?_, fun e => ?_⟩
      · have e' : w1.heap.size = k := by simpa [Value.ownBlock] using e
        have hb1 := World.block_lt_of_cell? _ _ hD.row
        rcases hk with (hk | hk) | (hk | hk)
        · have hk' : k = pb := hk
          simp only at hb1
          omega
        · have hk' : k = r := hk
          omega
        · have hk' : k = rb := hk
          omega
        · have := (hlra k hk).1; omega
      · have e' : w2.heap.size = k := by simpa [Value.ownBlock] using e
        omega) (fun g e e' => by
      have e1 : w2.heap.size = g := by simpa [Value.ownBlock] using e
      have e2 : w1.heap.size = g := by simpa [Value.ownBlock] using e'
      omega) (fun k hk => by
      rcases hk with e | e | ⟨i, q, hq, hk⟩
      · have e' : w1.heap.size = k := by simpa [Value.ownBlock] using e
        omega
      · have e' : w2.heap.size = k := by simpa [Value.ownBlock] using e
        omega
      · obtain rfl : q = ⟨pb, r, rb, ra, rc, 2, fun i => [-1, 9].getD i 0, 0⟩ := by
          cases i with
          | zero => simp at hq; exact hq.symm
          | succ i => simp at hq
        rcases hk with (hk | hk) | (hk | hk)
        · have hk' : k = pb := hk
          omega
        · have hk' : k = r := hk
          omega
        · have hk' : k = rb := hk
          omega
        · have := (hlra k hk).1; omega) ((k1'.trans k12).trans kz)
  (try simp only at S0)
  clear hI hD hR hrb hlb hlr hlt k1 k1' k2' k12 hlrb hlra ol ot s1 s2 kz k2 hlw
  generalize Value.slice (some ⟨w1.heap.size, 0, none⟩) 1 1 = vl0 at S0 ⊢
  generalize Value.slice (some ⟨w2.heap.size, 0, none⟩) 1 1 = vt0 at S0 ⊢
  generalize w2.alloc _ = W0 at S0 ⊢
  go_loopw [3, 4, 5] (fun vl vt i W => ∃ (j : Nat) (ρ : Nat → Nat) (ps : List Wd), j ≤ len ∧ i = .int .i64 (j : Int) ∧ ps.length ≤ j + 1 ∧ PS w W ρ vl vt ps) (fun _ _ i _ => len - (intOf i).toNat)
  case atStart => exact ⟨0, ρ0, _, Nat.zero_le _, rfl, by simp, S0⟩
  case round =>
    clear S0
    obtain ⟨j, ρ, ps, hj, rfl, hpl, hS⟩ := hrel
    obtain ⟨gl, cl, gt, ct, rfl, rfl, hcells, hoff⟩ := hS.at_
    by_cases hlt : j < len
    · have hltI : (j : Int) < (len : Int) := by omega
      have hj0 : (0 : Int) ≤ (j : Int) := by omega
      obtain ⟨b, off, rfl, hbb, hEA⟩ := h1.resolve_left (by omega)
      have hA := (hEA j hlt).keeps hS.kp
      have hAw := (hEA j hlt).nl
      obtain ⟨hw, hnI, hpl2⟩ := hE j hlt
      generalize E j = e at hA hAw hw hnI hpl2
      obtain ⟨kd, who, n, pa, pl, pc, z⟩ := e
      obtain ⟨e0, e1, e2, e3, nl⟩ := hA
      simp only at e0 e1 e2 e3 nl hAw hw hnI hpl2
      have HNLW : Hid (NL w pa pl z) := hAw
      clear hAw
      have hne := hS.ne
      obtain ⟨q, hql, hqe⟩ := who_of who (l := ps.length) hne (by omega)
      have HQ : Hid (wrap64 ((IntKind.u64.wrap who).tmod (ps.length : Int)) = (q : Int)) := hqe
      clear hqe
      have K0 : ∀ o, Keeps (fun _ => False) wr (wr.alloc o) := fun o => (Keeps.refl _ wr).alloc o
      obtain ⟨p, hp⟩ : ∃ p, ps[q]? = some p := ⟨ps[q], List.getElem?_eq_getElem hql⟩
      obtain ⟨cL, cT⟩ := hcells q p hp
      obtain ⟨nL, nT⟩ := hoff q p hp
      have lob : ¬ p.Blk wr.heap.size := fun e => Nat.lt_irrefl _ ((hS.each q p hp).lt e)
      have q0 : (0 : Int) ≤ (q : Int) := by omega
      have q1 : (q : Int) < (ps.length : Int) := by omega
      have HS : Hid (PS w wr ρ (.slice (some ⟨gl, 0, none⟩) ps.length cl) (.slice (some ⟨gt, 0, none⟩) ps.length ct) ps) := hS
      have HS1 : Hid (∀ o, PS w (wr.alloc o).drew ρ (.slice (some ⟨gl, 0, none⟩) ps.length cl) (.slice (some ⟨gt, 0, none⟩) ps.length ct) ps) := fun o => hS.new ((K0 o).drew)
      have HP := (show Hid (ps[q]? = some p) from hp)
      have cL1 := fun o => ((K0 o).drew).cell cL (fun e => e)
      have cT1 := fun o => ((K0 o).drew).cell cT (fun e => e)
      have HI : Hid (∀ o, WI (wr.alloc o).drew p) := fun o => (HS1.out o).each q p hp
      have nPb : ¬ gl = p.pb := fun e => nL (.inl (.inl e))
      have nPt : ¬ gt = p.pb := fun e => nT (.inl (.inl e))
      have nRb : ¬ gl = p.rb := fun e => nL (.inr (.inl e))
      have nRt : ¬ gt = p.rb := fun e => nT (.inr (.inl e))
      have nOb : ¬ wr.heap.size = p.pb := fun e => lob (.inl (.inl e))
      have nOr : ¬ wr.heap.size = p.rb := fun e => lob (.inr (.inl e))
      clear hEA hS hp hcells hoff
      by_cases hk0 : kd = 0
      ·
        subst hk0
        have HNL : Hid (NL wr pa pl z) := nl
        have kO : Keeps (fun _ => False) wr (wr.alloc (.cells #[.int .i64 0, .int .i64 who, .int .i64 n, .slice pa pl pc] 31)) := K0 _
        obtain ⟨v1, W1, hap1, own1, nn1, kk1, _⟩ := pick_app1 (W0 := wr.alloc (.cells #[.int .i64 0, .int .i64 who, .int .i64 n, .slice pa pl pc] 31)) ((Keeps.refl (fun _ => False) _).alloc (.cells #[] 2)) (heap_alloc_new _ _) (Nat.le_refl _) (nl.new kO) hpl2 pc
        obtain ⟨g, cap2, W2, hap2, own2, kk2, hc1, hc2, hgl⟩ := raw_app2 own1 kk1 hpl2
        simp only [World.size_alloc] at hap1 hgl
        have o3a := ((Keeps.refl (fun _ => False) (wr.alloc (.cells #[.int .i64 0, .int .i64 who, .int .i64 n, .slice pa pl pc] 31))).alloc (.cells #[] 2)).cell (p := ⟨wr.heap.size, 3, none⟩) (v := .slice pa pl pc) (cell_cells (heap_alloc_new wr _) rfl) (fun e => e)
        have KW : Keeps (fun _ => False) wr W2 := kO.trans kk2
        have HOB := (kk2.block wr.heap.size (by simp) (fun e => e)).trans (heap_alloc_new wr _)
        have o3 : W2.cell? ⟨wr.heap.size, 3, none⟩ = some (.slice pa pl pc) := cell_cells HOB rfl
        obtain ⟨pc0, pm0, pm1, pfz⟩ := raw_cells own2
        have hglt : g < W2.heap.size := owns_lt' own2 g rfl
        have nl2 : NL W2 (some ⟨g, 0, none⟩) pl z := by
          by_cases h0 : pl = 0
          · exact .inl h0
          · exact .inr ⟨g, 0, rfl, hglt, fun i hi => by rw [Nat.zero_add]; exact pc0 i hi⟩
        have hNew := wnew nl2 cap2 hpl2
        have hp0 : (0 : Int) ≤ (pl : Int) := by omega
        have hcI : (pl : Int) ≤ (cap2 : Int) := by omega
        have hcm : (cap2 : Int) ≤ 9223372036854775807 := by unfold maxLen at hc2; omega
        have HS2 : Hid (PS w W2 ρ (.slice (some ⟨gl, 0, none⟩) ps.length cl) (.slice (some ⟨gt, 0, none⟩) ps.length ct) ps) := HS.out.new KW
        clear own1 nn1 kk1 own2 kk2 HOB nl2 nl hc2 cL1 cT1 HS1 HI kO
        go_wp2_with (first | (at_builtin; refine wpList_append_run rfl _ _ _ rfl _ _ v1 W1 rfl rfl hap1 ?_; clear hap1) | (at_builtin; refine wpList_append_run rfl _ _ _ rfl _ _ _ W2 rfl rfl hap2 ?_; clear hap2) | (go_at_call 6; refine hNew.mono ?_; clear hNew; rintro e w5 ⟨pb5, r5, rfl, hD5, hrb5, hlb5, hlr5, hlt5, k5⟩))
        obtain ⟨wo, rfl⟩ : ∃ wo, wo = wr := ⟨_, rfl⟩
        have KX : Hid (Keeps (fun _ => False) W2 w5) := k5
        have hb5 := World.block_lt_of_cell? _ _ hD5.row
        simp only at hb5
        have HD5 : Hid (IsDr w5 pb5 r5 pl z 0) := hD5
        clear hD5 k5
        go_loopw [11] (fun i W => ∃ t : Nat, t ≤ pl ∧ i = .int .i64 (t : Int) ∧ Keeps (fun k => k = g) w5 W ∧ (∀ u, t ≤ u → u < pl → W.cell? ⟨g, u, none⟩ = some (.int .i64 (z u))) ∧ (W.cell? ⟨g, pl, none⟩ = some (.int .i64 77) ∧ W.cell? ⟨g, pl + 1, none⟩ = some (.int .i64 78)) ∧ (∀ u, W.frozen? ⟨g, u, none⟩ = false)) (fun i _ => pl - (intOf i).toNat)
        case atStart => exact ⟨0, Nat.zero_le _, rfl, Keeps.refl _ _, fun u _ hu => KX.out.cell (pc0 u hu) (fun e => e), ⟨KX.out.cell pm0 (fun e => e), KX.out.cell pm1 (fun e => e)⟩, fun u => (KX.out.frozen (p := ⟨g, u, none⟩) hglt (fun e => e)).trans (pfz u)⟩
        case round =>
          obtain ⟨t, htp, rfl, kI, hcs, ⟨hm0, hm1⟩, hfz⟩ := hrel
          have d2 := kI.cell (KX.out.cell o3 (fun e => e)) (by show ¬ wo.heap.size = g; omega)
          by_cases htl : t < pl
          · obtain ⟨b', o', rfl, hb', hpc'⟩ := HNL.out.some (by omega)
            have htI : (t : Int) < (pl : Int) := by omega
            have ht0 : (0 : Int) ≤ (t : Int) := by omega
            have ht2 : (t : Int) < ((pl + 2 : Nat) : Int) := by omega
            have d1 := hcs t (Nat.le_refl _) htl
            have dz := hfz t
            have d3 := kI.cell (KX.out.cell (KW.cell (hpc' t htl) (fun e => e)) (fun e => e)) (by show ¬ b' = g; omega)
            have HCS : Hid (∀ u, t ≤ u → u < pl → wr.cell? ⟨g, u, none⟩ = some (.int .i64 (z u))) := hcs
            have HFZ : Hid (∀ u, wr.frozen? ⟨g, u, none⟩ = false) := hfz
            have HM0 : Hid (wr.cell? ⟨g, pl, none⟩ = some (.int .i64 77)) := hm0
            have HM1 : Hid (wr.cell? ⟨g, pl + 1, none⟩ = some (.int .i64 78)) := hm1
            clear hcs hfz hpc' hm0 hm1
            go_wp2
            go_region
            go_wp2
            go_roundw
            case rel => exact ⟨t + 1, by omega, by go_num, (kI.drew).setCell (p := ⟨g, t, none⟩) (fun _ => rfl) _, fun u h1 h2 => (by show World.cell? (wr.setCell ⟨g, t, none⟩ _) ⟨g, u, none⟩ = _; rw [World.cell?_setCell_other (h := fun e => by simp only [Addr.mk.injEq] at e; omega)]; exact HCS.out u (by omega) h2), ⟨(by show World.cell? (wr.setCell ⟨g, t, none⟩ _) ⟨g, pl, none⟩ = _; rw [World.cell?_setCell_other (h := fun e => by simp only [Addr.mk.injEq] at e; omega)]; exact HM0.out), (by show World.cell? (wr.setCell ⟨g, t, none⟩ _) ⟨g, pl + 1, none⟩ = _; rw [World.cell?_setCell_other (h := fun e => by simp only [Addr.mk.injEq] at e; omega)]; exact HM1.out)⟩, fun u => (by show World.frozen? (wr.setCell ⟨g, t, none⟩ _) ⟨g, u, none⟩ = _; rw [World.frozen?_setCell]; exact HFZ.out u)⟩
            case measure => simp [intOf]; omega
          · have htI : ¬ (t : Int) < (pl : Int) := by omega
            have htb : decide (t < pl) = false := decide_eq_false htl
            have hi0 : (pl : Int) < ((pl + 2 : Nat) : Int) := by omega
            have hi1 : (pl : Int) + 1 < ((pl + 2 : Nat) : Int) := by omega
            clear hcs hfz
            have hS7 := (HS2.out.new KX.out).keeps kI (fun i hi e => by have := HS.out.lt hi; omega) (fun i hi e => by have := HS.out.kp.size; omega)
            have KW7 : Keeps (fun k => k = g) wo wr := (((KW.trans KX.out).mono (fun _ _ e => e.elim)).trans kI)
            obtain ⟨v7, w7, hr7, ow7, gr7, at7⟩ := app_l hS7.rl (by omega) pb5
            have k7 : Keeps (fun k => (Value.slice (some ⟨gl, 0, none⟩) ps.length cl).ownBlock = some k) wr w7 := ((Keeps.refl (fun _ => False) wr).alloc _).trans' ((Keeps.refl _ _).grown gr7 (S := fun k => (Value.slice (some ⟨gl, 0, none⟩) ps.length cl).ownBlock = some k) (fun _ _ e => e)) (fun _ _ e => e.elim) (fun _ _ e => e)
            have glo : gl < wo.heap.size := HS.out.lt (.inl rfl)
            have d7 := k7.cell d2 (fun e => absurd (show gl = wo.heap.size by simpa [Value.ownBlock] using e) (by omega))
            have nl7 : NL w7 pa pl z := by
              rcases HNLW.out with h0 | ⟨b, off, e, hb', hc⟩
              · exact .inl h0
              · have hlow := HS.out.lo gl (.inl rfl)
                have hbw : w.heap.size ≤ wo.heap.size := HS.out.kp.size
                exact .inr ⟨b, off, e, Nat.lt_of_lt_of_le (Nat.lt_of_lt_of_le hb' hbw) (Nat.le_trans KW7.size k7.size), fun i hi => k7.cell (KW7.cell (HS.out.kp.cell (hc i hi) (fun e => e)) (by show ¬ b = g; omega)) (fun e => absurd (show gl = b by simpa [Value.ownBlock] using e) (by omega))⟩
            have hRef := wrnew nl7 pc hpl2
            have HG : Hid (∀ w8 rb8 ra8 rc8, IsRd w8 rb8 ra8 rc8 pl z 0 → w7.heap.size ≤ rb8 → (∀ k, RawB ra8 pl k → w7.heap.size ≤ k ∧ k ≠ rb8) → Keeps (fun _ => False) w7 w8 → ∃ v9 w9 ρ9, (Builtin.append_ #[29, 29] 29 #[.slice (some ⟨gt, 0, none⟩) ps.length ct, .slice (some ⟨w8.heap.size, 0, none⟩) 1 1]).run Try.prog (w8.alloc (.cells #[.pointer (some ⟨rb8, 0, none⟩)] 27)) = .ok v9 w9 ∧ PS w w9 ρ9 v7 v9 (ps ++ [⟨pb5, r5, rb8, ra8, rc8, pl, z, 0⟩])) := fun w8 rb8 ra8 rc8 hR8 hl8 hla8 k8 => by
              have rt8 := k8.owns (k7.owns hS7.rt (fun gg e e' => by have h8 := hS7.r0 gg e'; have h9 := hS7.r1 gg e; omega)) (fun _ _ e => e)
              obtain ⟨v9, w9, hr9, ow9, gr9, at9⟩ := app_r rt8 (by omega) rb8
              have s7 := k7.size
              have sI := kI.size
              have sW := KX.out.size
              have hD8 : IsDr w8 pb5 r5 pl z 0 := ((HD5.out.keeps kI (by omega) (by omega)).keeps k7 (fun e => absurd (show gl = pb5 by simpa [Value.ownBlock] using e) (by omega)) (fun e => absurd (show gl = r5 by simpa [Value.ownBlock] using e) (by omega))).keeps k8 (fun e => e) (fun e => e)
              have hI8 : WI w8 ⟨pb5, r5, rb8, ra8, rc8, pl, z, 0⟩ := ⟨hD8, hR8, hrb5, fun k hk => (hla8 k hk).2, fun k hk e => by
                have h3 : w7.heap.size ≤ k := by
                  rcases e with e | e
                  · have e' : k = rb8 := e
                    omega
                  · exact (hla8 k e).1
                rcases hk with hk | hk
                · have hk' : k = pb5 := hk
                  omega
                · have hk' : k = r5 := hk
                  omega, by have := k8.size; show r5 < w8.heap.size; omega⟩
              have hlow : ∀ k, (⟨pb5, r5, rb8, ra8, rc8, pl, z, 0⟩ : Wd).Blk k → g < k ∧ (k < w5.heap.size ∨ w7.heap.size ≤ k) := fun k hk => by
                rcases hk with (hk | hk) | (hk | hk)
                · have hk' : k = pb5 := hk
                  omega
                · have hk' : k = r5 := hk
                  omega
                · have hk' : k = rb8 := hk
                  omega
                · have := (hla8 k hk).1; omega
              have hb7 : ∀ k, v7.ownBlock = some k → k < w7.heap.size := fun k e => owns_lt' ow7 k e
              obtain ⟨ρ9, hS9⟩ := hS7.add2 (p := ⟨pb5, r5, rb8, ra8, rc8, pl, z, 0⟩) (S := wo.heap.size) (fun k hk => HS.out.lt hk) HS.out.kp.size ((Keeps.refl _ wr).alloc _) gr7 ow7 at7 k8 hI8 (fun k hk => by have := (hlow k hk).1; omega) (fun k hk e => by
                have h9 := hlow k hk
                have h10 := hb7 k e
                rcases at7 with e' | e'
                · rw [e'] at e
                  have e2 : gl = k := by simpa [Value.ownBlock] using e
                  omega
                · rw [e'] at e
                  have e2 : wr.heap.size + 1 = k := by simpa using e
                  omega) ((Keeps.refl _ w8).alloc _) gr9 ow9 at9
              exact ⟨v9, w9, ρ9, hr9, hS9⟩
            clear hS7 ow7 gr7 at7 k7 nl7
            go_wp2_with (first | (at_builtin; refine wpList_append_run rfl _ _ _ rfl _ _ v7 w7 rfl rfl hr7 ?_; clear hr7) | (go_at_call 7; refine hRef.mono ?_; clear hRef; rintro e w8 ⟨rb8, ra8, rc8, rfl, hR8, hl8, hla8, k8⟩; obtain ⟨v9, w9, ρ9, hr9, hS9⟩ := HG.out w8 rb8 ra8 rc8 hR8 hl8 hla8 k8; have HS9 : Hid (PS w w9 ρ9 v7 v9 (ps ++ [⟨pb5, r5, rb8, ra8, rc8, pl, z, 0⟩])) := hS9; clear hS9) | (at_builtin; refine wpList_append_run rfl _ _ _ rfl _ _ v9 w9 rfl rfl hr9 ?_; clear hr9))
            go_roundw
            case rel => exact ⟨j + 1, ρ9, _, by omega, by go_num, by simp; omega, HS9.out⟩
            case measure => simp [intOf]; omega
      by_cases hk1 : kd = 1
      ·
        subst hk1
        have hn1 := fun o => wnext (HI.out o).dr (HI.out o).a1
        have hn2 : Hid (∀ o w5, Keeps (fun i => i = p.pb) (wr.alloc o).drew w5 → Calls Try.prog 9 #[.pointer (some ⟨p.rb, 0, none⟩)] w5 fun e w' => e = .returned (.int .i64 p.val) ∧ IsRd w' p.rb p.ra p.rc p.n p.x p.nxt ∧ Keeps (fun i => i = p.rb) w5 w') := fun o w5 k => wrnext ((HI.out o).rd.keeps k (fun e => (HI.out o).ap p.rb (.inl e) (.inl rfl)) (fun i hi e => (HI.out o).ap i (.inl e) (.inr hi))) (HI.out o).a2
        generalize hval : p.val = v at hn1 hn2
        clear hval
        go_wp2
        rw [HQ.out]
        go_region_held3 (fun w' => w'.cell? ⟨gl, q, none⟩ = some (.pointer (some ⟨p.pb, 0, none⟩)) ∧ w'.cell? ⟨gt, q, none⟩ = some (.pointer (some ⟨p.rb, 0, none⟩))) (first | (refine ⟨?_, ?_⟩ <;> assumption) | go_keep) (first | (go_at_call 8; refine (hn1 _).mono ?_; clear hn1; rintro e w5 ⟨rfl, hD5, k5⟩; have x4 := k5.cell (cL1 _) nPb; have x5 := k5.cell (cT1 _) nPt) | (go_at_call 9; refine (hn2.out _ w5 k5).mono ?_; rintro e w6 ⟨rfl, hR6, k6⟩; have x6 := k6.cell x4 nRb; have x7 := k6.cell x5 nRt))
        go_wp2
        go_roundw
        case rel => exact ⟨j + 1, ρ, _, by omega, by go_num, by simp; omega, (HS1.out _).play HP.out ((HI.out _).both k5 hD5 k6 hR6).1 ((HI.out _).both k5 hD5 k6 hR6).2⟩
        case measure => simp [intOf]; omega
      by_cases hk2 : kd = 2
      ·
        subst hk2
        have hn1 := fun o => wbelow (HI.out o).dr (HI.out o).a1 n (in64_of hnI)
        have hn2 : Hid (∀ o w5, Keeps (fun i => i = p.pb) (wr.alloc o).drew w5 → Calls Try.prog 11 #[.pointer (some ⟨p.rb, 0, none⟩), .int .i64 n] w5 fun e w' => e = .returned (.int .i64 (p.bel n)) ∧ IsRd w' p.rb p.ra p.rc p.n p.x (p.nxb n) ∧ Keeps (fun i => i = p.rb) w5 w') := fun o w5 k => wrbelow ((HI.out o).rd.keeps k (fun e => (HI.out o).ap p.rb (.inl e) (.inl rfl)) (fun i hi e => (HI.out o).ap i (.inl e) (.inr hi))) (HI.out o).a2 n (in64_of hnI)
        generalize hval : p.bel n = v at hn1 hn2
        clear hval
        go_wp2
        rw [HQ.out]
        go_region_held3 (fun w' => w'.cell? ⟨wr.heap.size, 2, none⟩ = some (.int .i64 n) ∧ w'.cell? ⟨gl, q, none⟩ = some (.pointer (some ⟨p.pb, 0, none⟩)) ∧ w'.cell? ⟨gt, q, none⟩ = some (.pointer (some ⟨p.rb, 0, none⟩))) (first | (refine ⟨?_, ?_, ?_⟩ <;> assumption) | go_keep) (first | (go_at_call 10; refine (hn1 _).mono ?_; clear hn1; rintro e w5 ⟨rfl, hD5, k5⟩; have x3 := k5.cell (p := ⟨wr.heap.size, 2, none⟩) (v := .int .i64 n) (by simp) nOb; have x4 := k5.cell (cL1 _) nPb; have x5 := k5.cell (cT1 _) nPt) | (go_at_call 11; refine (hn2.out _ w5 k5).mono ?_; rintro e w6 ⟨rfl, hR6, k6⟩; have x8 := k6.cell x3 nOr; have x6 := k6.cell x4 nRb; have x7 := k6.cell x5 nRt))
        go_wp2
        go_roundw
        case rel => exact ⟨j + 1, ρ, _, by omega, by go_num, by simp; omega, (HS1.out _).play HP.out ((HI.out _).both k5 hD5 k6 hR6).1 ((HI.out _).both k5 hD5 k6 hR6).2⟩
        case measure => simp [intOf]; omega
      by_cases hk3 : kd = 3
      ·
        subst hk3
        have hn1 := fun o => taken_any (HI.out o).dr
        have hn2 := fun o => refTaken_any (HI.out o).rd
        go_wp2
        rw [HQ.out]
        go_region_held3 (fun w' => w'.cell? ⟨gl, q, none⟩ = some (.pointer (some ⟨p.pb, 0, none⟩)) ∧ w'.cell? ⟨gt, q, none⟩ = some (.pointer (some ⟨p.rb, 0, none⟩))) (first | (refine ⟨?_, ?_⟩ <;> assumption) | go_keep) (first | (go_at_call 12; refine (hn1 _).mono ?_; clear hn1; rintro e w5 ⟨rfl, hw5⟩; subst hw5) | (go_at_call 13; refine (hn2 _).mono ?_; clear hn2; rintro e w5 ⟨rfl, hw5⟩; subst hw5))
        go_wp2
        go_roundw
        case rel => exact ⟨j + 1, ρ, ps, by omega, by go_num, by omega, HS1.out _⟩
        case measure => simp [intOf]; omega
      by_cases hk4 : kd = 4
      ·
        subst hk4
        have hn1 := fun o => wleft (HI.out o).dr
        have hn2 : Hid (∀ o w5, Keeps (fun _ => False) (wr.alloc o).drew w5 → Calls Try.prog 15 #[.pointer (some ⟨p.rb, 0, none⟩)] w5 fun e w' => e = .returned (.int .i64 ((p.n : Int) - (p.k : Int))) ∧ Keeps (fun _ => False) w5 w') := fun o w5 k => wrleft ((HI.out o).new k).rd
        go_wp2
        rw [HQ.out]
        go_region_held3 (fun w' => w'.cell? ⟨gl, q, none⟩ = some (.pointer (some ⟨p.pb, 0, none⟩)) ∧ w'.cell? ⟨gt, q, none⟩ = some (.pointer (some ⟨p.rb, 0, none⟩))) (first | (refine ⟨?_, ?_⟩ <;> assumption) | go_keep) (first | (go_at_call 14; refine (hn1 _).mono ?_; clear hn1; rintro e w5 ⟨rfl, k5⟩; have x4 := k5.cell (cL1 _) (fun e => e); have x5 := k5.cell (cT1 _) (fun e => e)) | (go_at_call 15; refine (hn2.out _ w5 k5).mono ?_; rintro e w6 ⟨rfl, k6⟩; have x6 := k6.cell x4 (fun e => e); have x7 := k6.cell x5 (fun e => e)))
        go_wp2
        go_roundw
        case rel => exact ⟨j + 1, ρ, ps, by omega, by go_num, by omega, (HS1.out _).new (k5.trans k6)⟩
        case measure => simp [intOf]; omega
      ·
        have h0b : (kd == 0) = false := by simp [hk0]
        have h1b : (kd == 1) = false := by simp [hk1]
        have h2b : (kd == 2) = false := by simp [hk2]
        have h3b : (kd == 3) = false := by simp [hk3]
        have h4b : (kd == 4) = false := by simp [hk4]
        clear hk0 hk1 hk2 hk3 hk4
        go_wp2
        go_roundw
        case rel => exact ⟨j + 1, ρ, ps, by omega, by go_num, by omega, HS.out.new (K0 _)⟩
        case measure => simp [intOf]; omega
    ·
      have hltI : ¬ (j : Int) < (len : Int) := by omega
      have hjb : decide (j < len) = false := decide_eq_false hlt
      have hn0 := hS.ne
      have hNb : ps.length ≤ 1048577 := by omega
      clear hpl
      generalize hN : ps.length = N at hS hn0 hNb ⊢
      have HN0 : Hid (ps.length = N) := hN
      clear hN hcells hoff
      go_wp2
      go_loopw [12] (fun i W => ∃ (t : Nat) (ρ : Nat → Nat) (ps : List Wd), t ≤ N ∧ i = .int .i64 (t : Int) ∧ ps.length = N ∧ PS w W ρ (.slice (some ⟨gl, 0, none⟩) N cl) (.slice (some ⟨gt, 0, none⟩) N ct) ps) (fun i _ => N - (intOf i).toNat)
      case atStart => exact ⟨0, ρ, ps, Nat.zero_le _, rfl, HN0.out, hS⟩
      case round =>
        clear hS hn0 HN0
        obtain ⟨t, ρ', ps', htn, rfl, hN, hS⟩ := hrel
        by_cases hlt3 : t < N
        · have hltI3 : (t : Int) < (N : Int) := by omega
          have t0 : (0 : Int) ≤ (t : Int) := by omega
          obtain ⟨hcells, hoff⟩ := hS.at2
          obtain ⟨p, hp⟩ : ∃ p, ps'[t]? = some p := ⟨ps'[t]'(by omega), List.getElem?_eq_getElem (by omega)⟩
          obtain ⟨cL, cT⟩ := hcells t p hp
          obtain ⟨nL, nT⟩ := hoff t p hp
          have hS1 := hS.new ((Keeps.refl _ wr).drew)
          have HI : Hid (WI wr.drew p) := hS1.each t p hp
          have nPb : ¬ gl = p.pb := fun e => nL (.inl (.inl e))
          have nPt : ¬ gt = p.pb := fun e => nT (.inl (.inl e))
          have nRb : ¬ gl = p.rb := fun e => nL (.inr (.inl e))
          have nRt : ¬ gt = p.rb := fun e => nT (.inr (.inl e))
          have hn1 := wnext HI.out.dr HI.out.a1
          have hn2 : Hid (∀ w5, Keeps (fun i => i = p.pb) wr.drew w5 → Calls Try.prog 9 #[.pointer (some ⟨p.rb, 0, none⟩)] w5 fun e w' => e = .returned (.int .i64 p.val) ∧ IsRd w' p.rb p.ra p.rc p.n p.x p.nxt ∧ Keeps (fun i => i = p.rb) w5 w') := fun w5 k => wrnext (HI.out.rd.keeps k (fun e => HI.out.ap p.rb (.inl e) (.inl rfl)) (fun i hi e => HI.out.ap i (.inl e) (.inr hi))) HI.out.a2
          have HS1 : Hid (PS w wr.drew ρ' (.slice (some ⟨gl, 0, none⟩) N cl) (.slice (some ⟨gt, 0, none⟩) N ct) ps') := hS1
          have HP := (show Hid (ps'[t]? = some p) from hp)
          have HN := (show Hid (ps'.length = N) from hN)
          generalize hval : p.val = v at hn1 hn2
          generalize hnx : p.nxt = kx at hn1 hn2
          clear hS hS1 hp hcells hoff hN hval hnx
          go_wp2
          go_region_held3 (fun w' => w'.cell? ⟨gl, t, none⟩ = some (.pointer (some ⟨p.pb, 0, none⟩)) ∧ w'.cell? ⟨gt, t, none⟩ = some (.pointer (some ⟨p.rb, 0, none⟩))) (first | (refine ⟨?_, ?_⟩ <;> assumption) | go_keep) (first | (go_at_call 8; refine hn1.mono ?_; clear hn1; rintro e w5 ⟨rfl, hD5, k5⟩; have x4 := k5.cell (p := ⟨gl, t, none⟩) cL nPb; have x5 := k5.cell (p := ⟨gt, t, none⟩) cT nPt) | (go_at_call 9; refine (hn2.out w5 k5).mono ?_; rintro e w6 ⟨rfl, hR6, k6⟩; have x6 := k6.cell x4 nRb; have x7 := k6.cell x5 nRt; have hI6 := HI.out.both k5 hD5 k6 hR6; obtain ⟨hT1, hT2, hL1, hL2'⟩ := wd_rest hI6.1; have hL2 := (show Hid _ from hL2'); clear hL2'; have HI6 : Hid (WI w6 (p.to kx) ∧ Keeps p.Blk wr.drew w6) := hI6; clear hI6) | (go_at_call 12; refine hT1.mono ?_; clear hT1; rintro e w7 ⟨rfl, rfl⟩) | (go_at_call 13; refine hT2.mono ?_; clear hT2; rintro e w7 ⟨rfl, rfl⟩) | (go_at_call 14; refine hL1.mono ?_; clear hL1; rintro e w7 ⟨rfl, k7⟩; have y6 := k7.cell x6 (fun e => e); have y7 := k7.cell x7 (fun e => e)) | (go_at_call 15; refine (hL2.out w7 k7).mono ?_; rintro e w8 ⟨rfl, k8⟩; have z6 := k8.cell y6 (fun e => e); have z7 := k8.cell y7 (fun e => e)))
          go_wp2
          go_roundw
          case rel => exact ⟨t + 1, ρ', _, by omega, by go_num, by have := HN.out; simpa using this, (HS1.out.play HP.out HI6.out.1 HI6.out.2).new (k7.trans k8)⟩
          case measure => simp [intOf]; omega
        · have hltI3 : ¬ (t : Int) < (N : Int) := by omega
          have htb : decide (t < N) = false := decide_eq_false hlt3
          have kw := hS.kp
          clear hS
          have HZ : Hid (∀ W, Keeps (fun _ => False) (wr.alloc (.cells #[.slice none 0 0, .int .i64 0] 37)) W → IsZero W wr.heap.size) := fun W k => ⟨k.cell (cell_cells (heap_alloc_new wr _) rfl) (fun e => e), k.cell (cell_cells (heap_alloc_new wr _) rfl) (fun e => e)⟩
          have hz1 := (zero_next (HZ.out _ (Keeps.refl _ _))).mono (R' := fun e w' => e = .returned (.int .i64 0) ∧ Keeps (fun _ => False) (wr.alloc (.cells #[.slice none 0 0, .int .i64 0] 37)) w') (by rintro e w' ⟨rfl, m, rfl⟩; exact ⟨rfl, drewN_keeps _ _ m⟩)
          have hz2 : Hid (∀ W, Keeps (fun _ => False) (wr.alloc (.cells #[.slice none 0 0, .int .i64 0] 37)) W → Calls Try.prog 12 #[.pointer (some ⟨wr.heap.size, 0, none⟩)] W (fun e w' => e = .returned (.int .i64 0) ∧ W = w') ∧ Calls Try.prog 14 #[.pointer (some ⟨wr.heap.size, 0, none⟩)] W (fun e w' => e = .returned (.int .i64 0) ∧ Keeps (fun _ => False) W w')) := fun W k => ⟨(zero_taken (HZ.out W k)).mono fun _ _ x => ⟨x.1, x.2.symm⟩, (zero_left (HZ.out W k)).mono (by rintro e w' ⟨rfl, m, rfl⟩; exact ⟨rfl, drewN_keeps _ _ m⟩)⟩
          have hnn := fun W => (nil_next W).mono (R' := fun e w' => e = .returned (.int .i64 0) ∧ W = w') fun _ _ x => ⟨x.1, x.2.symm⟩
          have hnb := fun W => (nil_below 5 (by omega) (by unfold In64; omega) W).mono (R' := fun e w' => e = .returned (.int .i64 0) ∧ W = w') fun _ _ x => ⟨x.1, x.2.symm⟩
          have hnt := fun W => (nil_taken W).mono (R' := fun e w' => e = .returned (.int .i64 0) ∧ W = w') fun _ _ x => ⟨x.1, x.2.symm⟩
          have hnl := fun W => (nil_left W).mono (R' := fun e w' => e = .returned (.int .i64 0) ∧ W = w') fun _ _ x => ⟨x.1, x.2.symm⟩
          have hwn := fun W => wnew (W := W) (a := none) (len := 0) (x := fun _ => 0) (.inl rfl) 0 (by omega)
          have hwl : ∀ (W : World) (m : Nat), W.heap.size = m → Calls Try.prog 6 #[.slice (some ⟨m, 0, none⟩) 2 2] (W.alloc (.cells #[.int .i64 5, .int .i64 (-1)] 2)) fun e w' => ∃ b r, e = .returned (.pointer (some ⟨b, 0, none⟩)) ∧ IsDr w' b r 2 (fun i => [5, -1].getD i 0) 0 ∧ r ≠ b ∧ m ≤ b ∧ Keeps (fun _ => False) (W.alloc (.cells #[.int .i64 5, .int .i64 (-1)] 2)) w' := fun W m hm => by
            subst hm
            refine (wnew (litNl W [5, -1]) 2 (by simp)).mono ?_
            rintro e w' ⟨b, r, rfl, h1, h2, h4, _, _, h3⟩
            rw [World.size_alloc] at h4
            exact ⟨b, r, rfl, h1, h2, by omega, h3⟩
          go_wp2_with (first | (go_at_call 8; refine hz1.mono ?_; clear hz1; rintro e w5 ⟨rfl, k5⟩; obtain ⟨hzt, hzl⟩ := hz2.out _ k5) | (go_at_call 8; refine (hnn _).mono ?_; clear hnn; rintro e w6 ⟨rfl, rfl⟩) | (go_at_call 10; refine (hnb _).mono ?_; clear hnb; rintro e w6 ⟨rfl, rfl⟩) | (go_at_call 12; refine hzt.mono ?_; clear hzt; rintro e w6 ⟨rfl, rfl⟩) | (go_at_call 12; refine (hnt _).mono ?_; clear hnt; rintro e w6 ⟨rfl, rfl⟩) | (go_at_call 14; refine (hnl _).mono ?_; clear hnl; rintro e w6 ⟨rfl, rfl⟩) | (go_at_call 14; refine hzl.mono ?_; clear hzl; rintro e w7 ⟨rfl, k7⟩) | (go_at_call 6; refine (hwn _).mono ?_; clear hwn; rintro e w8 ⟨b8, r8, rfl, hD8, hr8, _, _, _, k8⟩; have hx1 := e_next hD8 rfl; have HX2 : Hid (∀ W, Keeps (fun _ => False) w8 W → IsDr W b8 r8 0 (fun _ => 0) 0) := fun W k => hD8.keeps k (fun e => e) (fun e => e)) | (go_at_call 8; refine hx1.mono ?_; clear hx1; rintro e w9 ⟨rfl, k9⟩; have hx3 := e_below (HX2.out _ k9) rfl 9 (by omega) (by unfold In64; omega)) | (go_at_call 10; refine hx3.mono ?_; clear hx3; rintro e w10 ⟨rfl, k10⟩; have hdd := HX2.out _ (k9.trans k10); have hx4 := e_taken hdd; have hx5 := e_left hdd; clear hdd) | (go_at_call 12; refine hx4.mono ?_; clear hx4; rintro e w11 ⟨rfl, rfl⟩) | (go_at_call 14; refine hx5.mono ?_; clear hx5; rintro e w12 ⟨rfl, k12⟩) | (go_at_call 6; refine (hwl _ _ (by rfl)).mono ?_; clear hwl; rintro e w13 ⟨b13, r13, rfl, hD13, hr13, hb13, k13⟩; have hy1 : Calls Try.prog 8 #[.pointer (some ⟨b13, 0, none⟩)] w13 (fun e w' => e = .returned (.int .i64 5) ∧ IsDr w' b13 r13 2 (fun i => [5, -1].getD i 0) 1 ∧ Keeps (fun i => i = b13) w13 w') := f_next hD13 hr13 (by omega)) | (go_at_call 8; refine hy1.mono ?_; clear hy1; rintro e w14 ⟨rfl, hD14, k14⟩; have hy2 : Calls Try.prog 10 #[.pointer (some ⟨b13, 0, none⟩), .int .i64 10] w14 (fun e w' => e = .returned (.int .i64 5) ∧ IsDr w' b13 r13 2 (fun i => [5, -1].getD i 0) 2 ∧ Keeps (fun i => i = b13) w14 w') := urem_five ▸ f_below hD14 hr13 (by omega) 10 (by omega) (by unfold In64; omega)) | (go_at_call 10; refine hy2.mono ?_; clear hy2; rintro e w15 ⟨rfl, hD15, k15⟩; have hy3 := e_taken hD15) | (go_at_call 12; refine hy3.mono ?_; clear hy3; rintro e w16 ⟨rfl, rfl⟩))
          go_ret
          have KA : Keeps (fun _ => False) w w12 := (((((kw.trans ((Keeps.refl _ wr).alloc _)).trans k5).trans k7).trans k8).trans (k9.trans k10)).trans k12
          have KB : Keeps (fun _ => False) w w13 := (KA.trans ((Keeps.refl _ w12).alloc _)).trans k13
          have sA := KA.size
          exact ⟨rfl, (KB.trans' (k14.trans k15) (fun _ _ e => e) (fun i hi e => by omega)).below (Nat.le_refl _) (fun _ _ e => e)⟩
end Go.Proofs.Ytepolcnplchfbaa
