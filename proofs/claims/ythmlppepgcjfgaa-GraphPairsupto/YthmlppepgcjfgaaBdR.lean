import Derived.Test.YthmlppepgcjfgaaBdQ
namespace Go.Proofs.Ythmlppepgcjfgaa
open Go.RowKit Go.Deep
attribute [local go_sem] Oper.semAt_some run_store_nf run_store_f
set_option maxHeartbeats 4000000 in
set_option maxRecDepth 100000 in
theorem between_any (hso : SoE) {w : World} {a : Option Addr} {cap : Nat} {ts : List Tv} {P : List (At × Ag)} (hA : ATM w a (P.map (·.1))) (hR : ∀ p ∈ P, AtR w p) (hI : BeI ts P) : Calls Try.prog 11 #[.slice a P.length cap] w (BeP w ts) := by
  have HSO : Hid SoE := hso
  have HA : Hid (ATM w a (P.map (·.1))) := hA
  have HR : Hid (∀ p ∈ P, AtR w p) := hR
  have HI : Hid (BeI ts P) := hI
  have hN4 := hI.n
  obtain ⟨W1, hW1⟩ : ∃ W1, W1 = w.alloc (.map #[] 0) := ⟨_, rfl⟩
  have HLO1 : Hid (LO w W1 []) := by rw [hW1]; exact LO.start w
  have hmm : (Instr.makeMap 55 none).run Try.prog w = .ok (.map (some w.heap.size)) W1 := by rw [hW1]; exact run_makeMap _ _
  clear hso hA hR hI hW1
  generalize hN : P.length = N at *
  have HN : Hid (P.length = N) := hN
  clear hN
  go_enter Try.func11, Try.ntmps11
  go_wp2_with fail
  clear hmm
  generalize hmb : w.heap.size = mb at *
  have HMB : Hid (w.heap.size = mb) := hmb
  clear hmb
  go_loopg [18] N (fun gh iv Wr => ∃ (i : Nat), gh + i = N ∧ iv = .int .i64 (i : Int) ∧ i ≤ N ∧ LO w Wr (fl (P.take i)))
  case atStart => exact ⟨0, rfl, rfl, Nat.zero_le _, HLO1.out⟩
  case round =>
    obtain ⟨i, hgh, rfl, hiN, hlo⟩ := hrel
    have HLO : Hid (LO w wr (fl (P.take i))) := hlo
    clear hlo HLO1
    by_cases hlj : i < N
    · have j1 : decide ((i : Int) < (N : Int)) = true := decide_eq_true (by omega)
      have j2 : decide (i < N) = true := decide_eq_true hlj
      have j3 : (i : Int) < (N : Int) := by omega
      have j4 : (0 : Int) ≤ (i : Int) := by omega
      have jw : IntKind.i64.wrap ((i : Int) + 1) = (i : Int) + 1 := by rw [IntKind.wrap_i64]; omega
      have hil : i < P.length := by rw [HN.out]; exact hlj
      have kr : Keeps (fun _ => False) w wr := by obtain ⟨_, _, _, k⟩ := HLO.out; exact k
      obtain ⟨b, off, rfl, hct⟩ := HA.out i (by rw [List.length_map]; exact hil)
      rw [getD_fst hil] at hct
      have hR1 := run_atAt (W := wr) (o := off + i * 5) (fun j v e => kr.cell (hct j v e) (fun e => e))
      have har := HR.out _ (getD_mem aa0 hil)
      have hI6 := (HI.out.w _ (getD_mem aa0 hil)).1
      have hsz := Nat.le_trans (sumG_mem (getD_mem aa0 hil)) HI.out.s
      have HFT : Hid (fl (P.take (i + 1)) = fl (P.take i) ++ (P.getD i aa0).2.ws.map (fun x => ((P.getD i aa0).1, x))) := take_fm (fun p : At × Ag => p.2.ws.map (fun x => (p.1, x))) aa0 hil
      have HGL : Hid ((fl (P.take i)).length + (P.getD i aa0).2.ws.length ≤ 1048576) := by
        have h1 := pre_len (fun p : At × Ag => p.2.ws.map (fun x => (p.1, x))) aa0 hil
        have h2 := HI.out.fl
        rw [List.length_map] at h1
        exact Nat.le_trans h1 h2
      clear hct hil kr
      generalize P.getD i aa0 = p at *
      obtain ⟨t, g⟩ := p
      obtain ⟨gnd, gfn, gen, rs, ws⟩ := g
      have HIW : Hid (∀ W, Keeps (fun _ => False) w W → IMr W t.wa ws) := fun W k => har.w.keep k
      have hwn : t.wn = ws.length := har.wn
      have HI6 : Hid (∀ x ∈ ws, I64 x) := hI6
      clear har hI6
      obtain ⟨wa, hwa⟩ : ∃ wa, wa = t.wa := ⟨_, rfl⟩
      obtain ⟨wc, hwc⟩ : ∃ wc, wc = t.wc := ⟨_, rfl⟩
      obtain ⟨M, hM⟩ : ∃ M, M = ws.length := ⟨_, rfl⟩
      have HTW : Hid (Value.slice t.wa t.wn t.wc = .slice wa M wc) := by show _ = _; rw [hwa, hwc, hM, hwn]
      rw [← hwa] at HIW
      have HM : Hid (ws.length = M) := hM.symm
      have hMb : M ≤ 1048576 := by rw [hM]; exact Nat.le_trans (Nat.le_add_right _ _) hsz
      clear hsz
      clear hwa hwc hM hwn
      replace HFT : Hid (fl (P.take (i + 1)) = fl (P.take i) ++ ws.map (fun x => (t, x))) := HFT
      replace HGL : Hid ((fl (P.take i)).length + ws.length ≤ 1048576) := HGL
      generalize fl (P.take i) = G at *
      obtain ⟨W4, hW4⟩ : ∃ W4, W4 = wr.alloc (.cells #[.int .i64 0, .int .i64 0, .int .i64 0, .slice none 0 0, .slice none 0 0] 58) := ⟨_, rfl⟩
      have k4 : Keeps (fun _ => False) wr W4 := by rw [hW4]; exact (Keeps.refl _ wr).alloc _
      have hU4 : CL W4 wr.heap.size at0.cells := by rw [hW4]; exact CL.made wr at0.cells 58
      have HW4 : Hid (W4 = wr.alloc (.cells #[.int .i64 0, .int .i64 0, .int .i64 0, .slice none 0 0, .slice none 0 0] 58)) := hW4
      have hOC : t.cells.toArray.all (·.oneCell') = true := all_oneCell_toArray (by simp [At.cells, Value.oneCell'])
      clear hW4
      go_wp2_with (first | (refine wpList_load_runL rfl 58 _ rfl ⟨b, off + i * 5, none⟩ rfl _ hR1 ?_; clear hR1) | (rw [← HW4.out]; clear HW4; refine wpList_store_cl rfl 58 _ _ rfl wr.heap.size 0 5 t.cells.toArray rfl rfl rfl hU4 (by show 5 ≤ 5; decide) iAt hOC ?_; intro w5 hc5 k5 hsz5; clear hsz5; have hI5 : CL w5 wr.heap.size t.cells := hc5; clear hc5; have K45 : Keeps (fun _ => False) wr w5 := k4.trans' k5 (fun _ _ e => e) (fun i2 hi2 e => (by have e : i2 = wr.heap.size := e; omega)); have HL1 : Hid (L1 w w5 G wr.heap.size t) := HLO.out.box K45 hI5; have z4 := hI5.c 4 _ rfl; rw [HTW.out] at z4; clear hI5 HLO; clear k4 k5 hU4))
      generalize hbx : wr.heap.size = bx at *
      clear hbx
      obtain ⟨G1, hG1⟩ : ∃ G1, G1 = gk := ⟨_, rfl⟩
      subst hG1
      go_loopw [25] (fun jv Wx => ∃ (j : Nat), jv = .int .i64 (j : Int) ∧ j ≤ M ∧ L1 w Wx (G ++ (ws.take j).map (fun x => (t, x))) bx t) (fun jv _ => M - (intOf jv).toNat)
      case atStart => exact ⟨0, rfl, Nat.zero_le _, by rw [List.take_zero, List.map_nil, List.append_nil]; exact HL1.out⟩
      case round =>
        obtain ⟨j, rfl, hjM, hl1⟩ := hrel
        have HLJ : Hid (L1 w wr (G ++ (ws.take j).map (fun x => (t, x))) bx t) := hl1
        clear hl1
        by_cases hlk : j < M
        · have k1 : decide ((j : Int) < (M : Int)) = true := decide_eq_true (by omega)
          have k2 : decide (j < M) = true := decide_eq_true hlk
          have k3 : (j : Int) < (M : Int) := by omega
          have k4 : (0 : Int) ≤ (j : Int) := by omega
          have kw : IntKind.i64.wrap ((j : Int) + 1) = (j : Int) + 1 := by rw [IntKind.wrap_i64]; omega
          have hjl : j < ws.length := by rw [HM.out]; exact hlk
          obtain ⟨wb, hwb, hwc⟩ := HIW.out wr HLJ.out.cl.2 j hjl
          subst hwb
          have hi64 := HI6.out _ (getD_mem 0 hjl)
          have HTJ : Hid ((ws.take (j + 1)).map (fun x => (t, x)) = (ws.take j).map (fun x => (t, x)) ++ [(t, ws.getD j 0)]) := take_mp (fun x => (t, x)) 0 hjl
          obtain ⟨s, a', n', c', W1, W2, hlook, hr1, hup, hst⟩ := HLJ.out.step hi64 (by
            have := HGL.out
            rw [List.length_append, List.length_map, List.length_take]
            omega)
          have HST : Hid (L1 w W2 (G ++ (ws.take (j + 1)).map (fun x => (t, x))) bx t) := by rw [HTJ.out, ← List.append_assoc]; exact hst
          have hR5 := run_atAt (W := wr) (b := bx) (o := 0) (s := t) (fun j v e => by rw [Nat.zero_add]; exact HLJ.out.cl.1.c j v e)
          clear hst hi64 hjl HTJ
          generalize ws.getD j 0 = x at *
          rw [HMB.out] at hlook hup
          go_wp2_with (first | (refine wpList_lookupL rfl 55 _ _ rfl _ _ rfl rfl _ hlook ?_; clear hlook) | (refine wpList_load_runL rfl 58 _ rfl ⟨bx, 0, none⟩ rfl _ hR5 ?_; clear hR5) | (refine wpList_build1L uA iA (by decide) (by decide) rfl _ rfl t.cells rfl rfl ?_) | (at_builtin; refine wpList_append_tL rfl _ _ _ rfl _ _ _ W1 rfl rfl hr1 ?_; clear hr1) | (refine wpList_updateL rfl 55 _ _ _ rfl _ _ _ rfl rfl rfl hup ?_; clear hup))
          go_roundw
          case rel => exact ⟨j + 1, by go_num, by omega, HST.out⟩
          case measure => simp [intOf]; omega
        · have k1 : decide ((j : Int) < (M : Int)) = false := decide_eq_false (by omega)
          have k2 : decide (j < M) = false := decide_eq_false hlk
          have HLX : Hid (LO w wr (fl (P.take (i + 1)))) := by
            have h := HLJ.out.out
            rw [List.take_of_length_le (by rw [HM.out]; omega)] at h
            rw [HFT.out]
            exact h
          clear HLJ HL1
          go_wp2_with fail
          go_roundg (G1 - 1)
          case measure => omega
          case rel => exact ⟨i + 1, by omega, by go_num, by omega, HLX.out⟩
    · have j1 : decide ((i : Int) < (N : Int)) = false := decide_eq_false (by omega)
      have j2 : decide (i < N) = false := decide_eq_false hlj
      have HLO2 : Hid (LO w wr (fl P)) := by
        have h := HLO.out
        rw [List.take_of_length_le (by rw [HN.out]; omega)] at h
        exact h
      clear HLO
      have HK0 : Hid (Keeps (fun _ => False) w wr) := by obtain ⟨_, _, _, k⟩ := HLO2.out; exact k
      go_wp2_with fail
      clear hgh hiN hlj j1 j2
      obtain ⟨w2, hw2⟩ : ∃ w2, w2 = wr := ⟨_, rfl⟩
      rw [← hw2] at HLO2 HK0
      have HW2 : Hid (w2 = wr) := hw2
      clear hw2
      go_loopg [8, 41] N (fun gh ev iv Wr => ∃ (i : Nat), gh + i = N ∧ iv = .int .i64 (i : Int) ∧ i ≤ N ∧ L2 w2 Wr ev ((P.take i).flatMap (paE P)))
      case atStart => exact ⟨0, rfl, rfl, Nat.zero_le _, by rw [HW2.out]; exact ⟨World.ownsRow_nil _ _ _ _, Keeps.refl _ _⟩⟩
      case round =>
        obtain ⟨i, hgh, rfl, hiN, hl2⟩ := hrel
        clear HW2
        have HL2 : Hid (L2 w2 wr u8 ((P.take i).flatMap (paE P))) := hl2
        clear hl2
        by_cases hlj : i < N
        · have j1 : decide ((i : Int) < (N : Int)) = true := decide_eq_true (by omega)
          have j2 : decide (i < N) = true := decide_eq_true hlj
          have j3 : (i : Int) < (N : Int) := by omega
          have j4 : (0 : Int) ≤ (i : Int) := by omega
          have jw : IntKind.i64.wrap ((i : Int) + 1) = (i : Int) + 1 := by rw [IntKind.wrap_i64]; omega
          have hil : i < P.length := by rw [HN.out]; exact hlj
          have kr : Keeps (fun _ => False) w wr := HK0.out.trans HL2.out.k
          obtain ⟨b, off, rfl, hct⟩ := HA.out i (by rw [List.length_map]; exact hil)
          rw [getD_fst hil] at hct
          have hR1 := run_atAt (W := wr) (o := off + i * 5) (fun j v e => kr.cell (hct j v e) (fun e => e))
          have har := HR.out _ (getD_mem aa0 hil)
          have hI6 := HI.out.w _ (getD_mem aa0 hil)
          have hsz := Nat.le_trans (sumG_mem (getD_mem aa0 hil)) HI.out.s
          have HFT : Hid ((P.take (i + 1)).flatMap (paE P) = (P.take i).flatMap (paE P) ++ paE P (P.getD i aa0)) := take_fm (paE P) aa0 hil
          have HGL : Hid (((P.take i).flatMap (paE P)).length + (paE P (P.getD i aa0)).length ≤ 4294967296) := Nat.le_trans (pre_len (paE P) aa0 hil) HI.out.len
          have HFEW : Hid (∀ x, (wrN (fl P) x).length ≤ 1048576) := fun x => by have := HI.out.a.few x; have := HI.out.n; omega
          clear hct hil kr
          generalize P.getD i aa0 = p at *
          obtain ⟨t, g⟩ := p
          obtain ⟨gnd, gfn, gen, rs, ws⟩ := g
          have HIw : Hid (∀ W, Keeps (fun _ => False) w2 W → IMr W t.wa ws) := fun W k => har.w.keep (HK0.out.trans k)
          have HIr : Hid (∀ W, Keeps (fun _ => False) w2 W → IMr W t.ra rs) := fun W k => har.r.keep (HK0.out.trans k)
          have hwn : t.wn = ws.length := har.wn
          have hrn : t.rn = rs.length := har.rn
          have HI6w : Hid (∀ x ∈ ws, I64 x) := hI6.1
          have HI6r : Hid (∀ x ∈ rs, I64 x) := hI6.2
          clear har hI6
          obtain ⟨wa, hwa⟩ : ∃ wa, wa = t.wa := ⟨_, rfl⟩
          obtain ⟨wc, hwc⟩ : ∃ wc, wc = t.wc := ⟨_, rfl⟩
          obtain ⟨M, hM⟩ : ∃ M, M = ws.length := ⟨_, rfl⟩
          obtain ⟨ra, hra⟩ : ∃ ra, ra = t.ra := ⟨_, rfl⟩
          obtain ⟨rc, hrc⟩ : ∃ rc, rc = t.rc := ⟨_, rfl⟩
          obtain ⟨R, hRl⟩ : ∃ R, R = rs.length := ⟨_, rfl⟩
          have HTW : Hid (Value.slice t.wa t.wn t.wc = .slice wa M wc) := by show _ = _; rw [hwa, hwc, hM, hwn]
          have HTR : Hid (Value.slice t.ra t.rn t.rc = .slice ra R rc) := by show _ = _; rw [hra, hrc, hRl, hrn]
          rw [← hwa] at HIw
          rw [← hra] at HIr
          have HMw : Hid (ws.length = M) := hM.symm
          have HMr : Hid (rs.length = R) := hRl.symm
          have hMb : M ≤ 1048576 := by rw [hM]; exact Nat.le_trans (Nat.le_add_right _ _) hsz
          have hRb : R ≤ 1048576 := by rw [hRl]; exact Nat.le_trans (Nat.le_add_left _ _) hsz
          clear hsz
          clear hwa hwc hM hwn hra hrc hRl hrn
          replace HFT : Hid ((P.take (i + 1)).flatMap (paE P) = (P.take i).flatMap (paE P) ++ (ws.flatMap (paW P t) ++ rs.flatMap (paR P t))) := HFT
          have hgl : ((P.take i).flatMap (paE P)).length + (ws.flatMap (paW P t) ++ rs.flatMap (paR P t)).length ≤ 4294967296 := HGL.out
          rw [List.length_append] at hgl
          have HBDw : Hid (∀ j, j < ws.length → ((P.take i).flatMap (paE P)).length + ((ws.take j).flatMap (paW P t)).length + (paW P t (ws.getD j 0)).length ≤ 4294967296) := fun j hj => by have := pre_len (paW P t) 0 hj; omega
          have HBDr : Hid (∀ j, j < rs.length → ((P.take i).flatMap (paE P) ++ ws.flatMap (paW P t)).length + ((rs.take j).flatMap (paR P t)).length + (paR P t (rs.getD j 0)).length ≤ 4294967296) := fun j hj => by have := pre_len (paR P t) 0 hj; rw [List.length_append]; omega
          clear HGL hgl
          generalize (P.take i).flatMap (paE P) = E at *
          obtain ⟨W4, hW4⟩ : ∃ W4, W4 = wr.alloc (.cells #[.int .i64 0, .int .i64 0, .int .i64 0, .slice none 0 0, .slice none 0 0] 58) := ⟨_, rfl⟩
          have k4 : Keeps (fun _ => False) wr W4 := by rw [hW4]; exact (Keeps.refl _ wr).alloc _
          have hU4 : CL W4 wr.heap.size at0.cells := by rw [hW4]; exact CL.made wr at0.cells 58
          have HW4 : Hid (W4 = wr.alloc (.cells #[.int .i64 0, .int .i64 0, .int .i64 0, .slice none 0 0, .slice none 0 0] 58)) := hW4
          have hOC : t.cells.toArray.all (·.oneCell') = true := all_oneCell_toArray (by simp [At.cells, Value.oneCell'])
          clear hW4
          go_wp2_with (first | (refine wpList_load_runL rfl 58 _ rfl ⟨b, off + i * 5, none⟩ rfl _ hR1 ?_; clear hR1) | (rw [← HW4.out]; clear HW4; refine wpList_store_cl rfl 58 _ _ rfl wr.heap.size 0 5 t.cells.toArray rfl rfl rfl hU4 (by show 5 ≤ 5; decide) iAt hOC ?_; intro w5 hc5 k5 hsz5; clear hsz5; have hI5 : CL w5 wr.heap.size t.cells := hc5; clear hc5; have K45 : Keeps (fun _ => False) wr w5 := k4.trans' k5 (fun _ _ e => e) (fun i2 hi2 e => (by have e : i2 = wr.heap.size := e; omega)); have HL3 : Hid (L3 w2 w5 u8 E wr.heap.size t) := HL2.out.box K45 hI5; have z4 := hI5.c 4 _ rfl; rw [HTW.out] at z4; clear hI5 HL2; clear k4 k5 hU4))
          generalize hbx : wr.heap.size = bx at *
          clear hbx
          obtain ⟨G1, hG1⟩ : ∃ G1, G1 = gk := ⟨_, rfl⟩
          subst hG1
          go_loopw [8, 48] (fun ev jv Wx => ∃ (j : Nat), jv = .int .i64 (j : Int) ∧ j ≤ M ∧ L3 w2 Wx ev (E ++ (ws.take j).flatMap (paW P t)) bx t) (fun _ jv _ => M - (intOf jv).toNat)
          case atStart => exact ⟨0, rfl, Nat.zero_le _, by rw [List.take_zero, List.flatMap_nil, List.append_nil]; exact HL3.out⟩
          case round =>
            obtain ⟨j, rfl, hjM, hl3⟩ := hrel
            have HLJ : Hid (L3 w2 wr u8 (E ++ (ws.take j).flatMap (paW P t)) bx t) := hl3
            clear hl3
            by_cases hlk : j < M
            · have k1 : decide ((j : Int) < (M : Int)) = true := decide_eq_true (by omega)
              have k2 : decide (j < M) = true := decide_eq_true hlk
              have k3 : (j : Int) < (M : Int) := by omega
              have k4 : (0 : Int) ≤ (j : Int) := by omega
              have kw : IntKind.i64.wrap ((j : Int) + 1) = (j : Int) + 1 := by rw [IntKind.wrap_i64]; omega
              have hjl : j < ws.length := by rw [HMw.out]; exact hlk
              have K0 := HLJ.out.l.k
              obtain ⟨wb, hwb, hwc⟩ := HIw.out wr K0 j hjl
              subst hwb
              have hi64 := HI6w.out _ (getD_mem 0 hjl)
              have HTJ : Hid ((ws.take (j + 1)).flatMap (paW P t) = (ws.take j).flatMap (paW P t) ++ paW P t (ws.getD j 0)) := take_fm (paW P t) 0 hjl
              have hbd := HBDw.out j hjl
              obtain ⟨la0, lc0, hlook, hatm⟩ := (HLO2.out.keep K0).look hi64
              have hof := ofWrite_any t (cap := lc0) hatm (HFEW.out _) (ws.getD j 0)
              have hR5 := run_atAt (W := wr) (b := bx) (o := 0) (s := t) (fun j v e => by rw [Nat.zero_add]; exact HLJ.out.c.c j v e)
              have HNX : Hid (∀ W' la ln lc, OE wr.heap.size W' (.slice la ln lc) ln (paW P t (ws.getD j 0)) → Keeps (fun _ => False) wr W' → ∃ v' W'', (Builtin.append_ #[23, 23] 23 #[u8, .slice la ln lc]).run Try.prog W' = .ok v' W'' ∧ L3 w2 W'' v' (E ++ (ws.take (j + 1)).flatMap (paW P t)) bx t) := fun W' la ln lc h k => by
                rw [HTJ.out, ← List.append_assoc]
                exact HLJ.out.step k h.o (by rw [List.length_append]; exact hbd)
              have hof : Calls Try.prog 17 #[.agg t.cells.toArray, .slice la0 (wrN (fl P) (ws.getD j 0)).length lc0, .int .i64 (ws.getD j 0)] wr fun e w' => ∃ la ln lc, e = .returned (.slice la ln lc) ∧ OE wr.heap.size w' (.slice la ln lc) ln (paW P t (ws.getD j 0)) ∧ Keeps (fun _ => False) wr w' := hof
              clear hatm hbd hi64 hjl HTJ K0
              generalize ws.getD j 0 = x at *
              rw [HMB.out] at hlook
              generalize (wrN (fl P) x).length = wl at *
              go_wp2_with (first | (refine wpList_load_runL rfl 58 _ rfl ⟨bx, 0, none⟩ rfl _ hR5 ?_; clear hR5) | (refine wpList_lookupL rfl 55 _ _ rfl _ _ rfl rfl _ hlook ?_; clear hlook) | (go_at_call 17; refine hof.mono ?_; clear hof; rintro e w6 ⟨la, ln, lc, rfl, hoe, k6⟩; obtain ⟨v', W6, hr, hnx⟩ := HNX.out w6 la ln lc hoe k6; clear hoe; have HN6 : Hid (L3 w2 W6 v' (E ++ (ws.take (j + 1)).flatMap (paW P t)) bx t) := hnx; clear hnx) | (at_builtin; refine wpList_append_tL rfl _ _ _ rfl _ _ _ W6 rfl rfl hr ?_; clear hr))
              go_roundw
              case rel => exact ⟨j + 1, by go_num, by omega, HN6.out⟩
              case measure => simp [intOf]; omega
            · have k1 : decide ((j : Int) < (M : Int)) = false := decide_eq_false (by omega)
              have k2 : decide (j < M) = false := decide_eq_false hlk
              have HL4 : Hid (L3 w2 wr u8 (E ++ ws.flatMap (paW P t)) bx t) := by
                have h := HLJ.out
                rw [List.take_of_length_le (by rw [HMw.out]; omega)] at h
                exact h
              have z3 : wr.cell? ⟨bx, 3, none⟩ = some (.slice ra R rc) := by rw [← HTR.out]; exact HL4.out.c.c 3 _ rfl
              clear HLJ HL3
              have HL3 : Hid (L3 w2 wr u8 (E ++ ws.flatMap (paW P t)) bx t) := HL4.out
              clear HL4
              go_wp2_with fail
              clear z3
              go_loopw [8, 64] (fun ev jv Wx => ∃ (j : Nat), jv = .int .i64 (j : Int) ∧ j ≤ R ∧ L3 w2 Wx ev (E ++ ws.flatMap (paW P t) ++ (rs.take j).flatMap (paR P t)) bx t) (fun _ jv _ => R - (intOf jv).toNat)
              case atStart => exact ⟨0, rfl, Nat.zero_le _, by rw [List.take_zero, List.flatMap_nil, List.append_nil]; exact HL3.out⟩
              case round =>
                obtain ⟨j, rfl, hjM, hl3⟩ := hrel
                have HLJ : Hid (L3 w2 wr u8 (E ++ ws.flatMap (paW P t) ++ (rs.take j).flatMap (paR P t)) bx t) := hl3
                clear hl3
                by_cases hlk : j < R
                · have k1 : decide ((j : Int) < (R : Int)) = true := decide_eq_true (by omega)
                  have k2 : decide (j < R) = true := decide_eq_true hlk
                  have k3 : (j : Int) < (R : Int) := by omega
                  have k4 : (0 : Int) ≤ (j : Int) := by omega
                  have kw : IntKind.i64.wrap ((j : Int) + 1) = (j : Int) + 1 := by rw [IntKind.wrap_i64]; omega
                  have hjl : j < rs.length := by rw [HMr.out]; exact hlk
                  have K0 := HLJ.out.l.k
                  obtain ⟨wb, hwb, hwc⟩ := HIr.out wr K0 j hjl
                  subst hwb
                  have hi64 := HI6r.out _ (getD_mem 0 hjl)
                  have HTJ : Hid ((rs.take (j + 1)).flatMap (paR P t) = (rs.take j).flatMap (paR P t) ++ paR P t (rs.getD j 0)) := take_fm (paR P t) 0 hjl
                  have hbd := HBDr.out j hjl
                  obtain ⟨la0, lc0, hlook, hatm⟩ := (HLO2.out.keep K0).look hi64
                  have hof := ofRead_any t (cap := lc0) hatm (HFEW.out _) (rs.getD j 0)
                  have hR5 := run_atAt (W := wr) (b := bx) (o := 0) (s := t) (fun j v e => by rw [Nat.zero_add]; exact HLJ.out.c.c j v e)
                  have HNX : Hid (∀ W' la ln lc, OE wr.heap.size W' (.slice la ln lc) ln (paR P t (rs.getD j 0)) → Keeps (fun _ => False) wr W' → ∃ v' W'', (Builtin.append_ #[23, 23] 23 #[u8, .slice la ln lc]).run Try.prog W' = .ok v' W'' ∧ L3 w2 W'' v' (E ++ ws.flatMap (paW P t) ++ (rs.take (j + 1)).flatMap (paR P t)) bx t) := fun W' la ln lc h k => by
                    rw [HTJ.out, ← List.append_assoc]
                    exact HLJ.out.step k h.o (by rw [List.length_append]; exact hbd)
                  have hof : Calls Try.prog 18 #[.agg t.cells.toArray, .slice la0 (wrN (fl P) (rs.getD j 0)).length lc0, .int .i64 (rs.getD j 0)] wr fun e w' => ∃ la ln lc, e = .returned (.slice la ln lc) ∧ OE wr.heap.size w' (.slice la ln lc) ln (paR P t (rs.getD j 0)) ∧ Keeps (fun _ => False) wr w' := hof
                  clear hatm hbd hi64 hjl HTJ K0
                  generalize rs.getD j 0 = x at *
                  rw [HMB.out] at hlook
                  generalize (wrN (fl P) x).length = wl at *
                  go_wp2_with (first | (refine wpList_load_runL rfl 58 _ rfl ⟨bx, 0, none⟩ rfl _ hR5 ?_; clear hR5) | (refine wpList_lookupL rfl 55 _ _ rfl _ _ rfl rfl _ hlook ?_; clear hlook) | (go_at_call 18; refine hof.mono ?_; clear hof; rintro e w6 ⟨la, ln, lc, rfl, hoe, k6⟩; obtain ⟨v', W6, hr, hnx⟩ := HNX.out w6 la ln lc hoe k6; clear hoe; have HN6 : Hid (L3 w2 W6 v' (E ++ ws.flatMap (paW P t) ++ (rs.take (j + 1)).flatMap (paR P t)) bx t) := hnx; clear hnx) | (at_builtin; refine wpList_append_tL rfl _ _ _ rfl _ _ _ W6 rfl rfl hr ?_; clear hr))
                  go_roundw
                  case rel => exact ⟨j + 1, by go_num, by omega, HN6.out⟩
                  case measure => simp [intOf]; omega
                · have k1 : decide ((j : Int) < (R : Int)) = false := decide_eq_false (by omega)
                  have k2 : decide (j < R) = false := decide_eq_false hlk
                  have HLR : Hid (L3 w2 wr u8 (E ++ (ws.flatMap (paW P t) ++ rs.flatMap (paR P t))) bx t) := by
                    have h := HLJ.out
                    rw [List.take_of_length_le (by rw [HMr.out]; omega), List.append_assoc] at h
                    exact h
                  have HLX : Hid (L2 w2 wr u8 ((P.take (i + 1)).flatMap (paE P))) := by rw [HFT.out]; exact HLR.out.l
                  clear HLJ HL3 HLR
                  go_wp2_with fail
                  go_roundg (G1 - 1)
                  case measure => omega
                  case rel => exact ⟨i + 1, by omega, by go_num, by omega, HLX.out⟩
        · have j1 : decide ((i : Int) < (N : Int)) = false := decide_eq_false (by omega)
          have j2 : decide (i < N) = false := decide_eq_false hlj
          have HE : Hid (L2 w2 wr u8 (alE P)) := by
            have h := HL2.out
            rw [List.take_of_length_le (by rw [HN.out]; omega)] at h
            exact h
          have hs := HSO.out wr w2.heap.size (alE P).length u8 (alE P) HE.out.o (by have := HI.out.len; omega)
          have HBE : Hid (∀ W' ms, (alE P).Perm ms → ms.Pairwise (fun x y => ¬ LtE y x) → W'.ownsRow w2.heap.size 34 4 u8 (alE P).length (ecl ms) → Keeps (fun b => u8.ownBlock = some b) wr W' → BeP w ts (.returned u8) W') := fun W' ms h1 h2 h3 h4 => BeP.of HI.out HK0.out HE.out h1 h2 h3 h4
          clear HL2 HE
          go_wp2_with (go_at_call 19; refine hs.mono ?_; clear hs; rintro e w9 ⟨rfl, ms, m1, m2, m3, m4⟩; have HX : Hid (BeP w ts (.returned u8) w9) := HBE.out w9 ms m1 m2 m3 m4; clear m1 m2 m3 m4 HBE)
          go_ret
          exact HX.out
end Go.Proofs.Ythmlppepgcjfgaa
