import Derived.Test.YthmlppepgcjfgaaBtA
import Derived.Test.YthmlppepgcjfgaaBtB
namespace Go.Proofs.Ythmlppepgcjfgaa
open Go.RowKit Go.Deep
attribute [local go_sem] Oper.semAt_some run_store_nf run_store_f
set_option maxHeartbeats 3000000 in
set_option maxRecDepth 100000 in
theorem gpairs_any {w : World} {a : Option Addr} {cap : Nat} {ts : List Tv} {p : Nat → Lp} (hT : TXM w a ts p) (hz : LpZ p ts.length) (hI : TsI ts) (i j : Int) : Calls Try.prog 3 #[.slice a ts.length cap, .int .i64 i, .int .i64 j] w fun e w' => e = .returned (.bool true) ∧ Below w.heap.size w w' := by
  have HEND : Hid (∀ W, Keeps (fun _ => False) w W → Below w.heap.size w W) := fun W k => k.below (Nat.le_refl _) (fun _ _ e => e)
  have HTX : Hid (∀ W, Keeps (fun _ => False) w W → Calls Try.prog 7 #[.slice a ts.length cap] W fun e w' => ∃ a2 c2 p2, e = .returned (.slice a2 ts.length c2) ∧ TXM w' a2 ts p2 ∧ Keeps (fun _ => False) W w') := fun W k => (txsOf_any (hT.keep k) hz hI.l hI.s).mono (by
    rintro e w' ⟨v, Q, rfl, hto, hq⟩
    obtain ⟨a2, c2, rfl, hx⟩ := hto.txm
    have hl : Q.length = ts.length := by rw [← hq, List.length_map]
    rw [hq] at hx
    rw [hl]
    exact ⟨a2, c2, _, rfl, hx, hto.k⟩)
  have HTY : Hid (0 < ts.length → ∀ W I J, Keeps (fun _ => False) w W → Calls Try.prog 7 #[.slice a ts.length cap] W fun e w' => ∃ g c2, e = .returned (.slice (some ⟨g, 0, none⟩) ts.length c2) ∧ OfS W w' g ts I J 0) := fun h0 W I J k => (txsOf_any (hT.keep k) hz hI.l hI.s).mono (by
    rintro e w' ⟨v, Q, rfl, hto, hq⟩
    have hl : Q.length = ts.length := by rw [← hq, List.length_map]
    obtain ⟨g, c2, rfl, hx⟩ := hto.tw (by omega)
    rw [hl]
    exact ⟨g, c2, rfl, OfS.start hx hq I J⟩)
  have HPB : Hid (∀ W a2 c2 p2, TXM W a2 ts p2 → Calls Try.prog 5 #[.slice a2 ts.length c2] W fun e w' => ∃ va vc l ec, e = .returned (.tuple #[.slice va l.length vc, .int .i64 ec]) ∧ w'.ownsRow W.heap.size 34 4 (.slice va l.length vc) l.length (ecl l) ∧ BuA ts l ec ∧ Keeps (fun _ => False) W w') := fun W a2 c2 p2 h => Build_p h hI
  have HPC : Hid (∀ W g c2 I J, OfS w W g ts I J ts.length → Calls Try.prog 5 #[.slice (some ⟨g, 0, none⟩) ts.length c2] W fun e w' => ∃ va vc l ec, e = .returned (.tuple #[.slice va l.length vc, .int .i64 ec]) ∧ w'.ownsRow W.heap.size 34 4 (.slice va l.length vc) l.length (ecl l) ∧ BuA (offT ts I J) l ec ∧ Keeps (fun _ => False) W w') := fun W g c2 I J h => by
    obtain ⟨p3, h3, -⟩ := h.done
    have hb := Build_p (cap := c2) h3 (offT_i hI)
    rw [offT_len] at hb
    exact hb
  have HBL : Hid (∀ l ec, BuA ts l ec → l.length ≤ 4294967296) := fun l ec h => BuA_len hI h
  have hl20 := hI.l
  clear hT hz hI
  generalize hN : ts.length = N at *
  have HN : Hid (ts.length = N) := hN
  clear hN
  have hsk := skew_any w
  go_enter Try.func3, Try.ntmps3
  refine wp_seq_k (fun KK hKK => ?_)
  have hKH : Hid _ := hKK
  clear hKK
  go_wp2_with fail
  refine hKH.out _ _ ?_
  clear hKH KK
  refine wp_seq_k (fun KK hKK => ?_)
  have hKH : Hid _ := hKK
  clear hKK
  go_wp2_with (first | (go_at_call 6; refine hsk.mono ?_; clear hsk; rintro e w1 ⟨a7, c7, p7, rfl, t7, k1⟩; have hbs := Build_sk (c := c7) t7; clear t7) | (go_at_call 5; refine hbs.mono ?_; clear hbs; rintro e w2 ⟨g8, c8, rfl, hcl, k2⟩; clear hcl))
  refine hKH.out _ _ ?_
  clear hKH KK
  refine wp_seq_k (fun KK hKK => ?_)
  have hKH : Hid _ := hKK
  clear hKK
  go_wp2_with fail
  refine hKH.out _ _ ?_
  clear hKH KK
  have K2 : Keeps (fun _ => False) w w2 := k1.trans k2
  clear k1 k2
  have htx := HTX.out w2 K2
  clear HTX
  refine wp_seq_k (fun KK hKK => ?_)
  have hKH : Hid _ := hKK
  clear hKK
  go_wp2_with (first | (go_at_call 7; refine htx.mono ?_; clear htx; rintro e w3 ⟨a2, c2, p2, rfl, t3, k3⟩; have hpb := HPB.out w3 a2 c2 p2 t3; clear HPB t3) | (go_at_call 5; refine hpb.mono ?_; clear hpb; rintro e w4 ⟨va, vc, l, ec, rfl, ho, hb, k4⟩; have HO : Hid (w4.ownsRow w3.heap.size 34 4 (.slice va l.length vc) l.length (ecl l)) := ho; have HB : Hid (BuA ts l ec) := hb; clear ho hb))
  refine hKH.out _ _ ?_
  clear hKH KK
  have K3 : Keeps (fun _ => False) w w4 := (K2.trans k3).trans k4
  have HK24 : Hid (Keeps (fun _ => False) w w4) := K3
  clear K2 k3 k4
  have HL0 : Hid (ec ≠ 0 → l.length = 0) := fun h => by
    rcases HB.out with ⟨-, -, rfl⟩ | ⟨-, e, -, -⟩
    · rfl
    · exact absurd e h
  have HE1 : Hid (EL w4 va l) := by
    obtain ⟨a', c', e, h, -⟩ := el_of HO.out
    rw [(Value.slice.inj e).1]
    exact h
  have hLL := HBL.out _ _ HB.out
  clear HO HBL
  generalize hL : l.length = L at *
  have HL : Hid (l.length = L) := hL
  clear hL
  by_cases hec : ec = 0
  · subst hec
    clear HL0
    refine wp_seq_k (fun KK hKK => ?_)
    have hKH : Hid _ := hKK
    clear hKK
    by_cases hi0 : i < 0
    · have d1 : decide (i < 0) = true := decide_eq_true hi0
      clear hKH
      cases hlz : ((L : Int) == 0)
      · go_wp2_with fail
        go_ret
        exact ⟨rfl, HEND.out _ K3⟩
      · go_wp2_with fail
        go_ret
        exact ⟨rfl, HEND.out _ K3⟩
    · have d1 : decide (i < 0) = false := decide_eq_false hi0
      by_cases hiN : (N : Int) ≤ i
      · have d2 : decide (i ≥ (N : Int)) = true := decide_eq_true hiN
        have d3 : decide ((N : Int) ≤ i) = true := decide_eq_true hiN
        clear hKH
        cases hlz : ((L : Int) == 0)
        · go_wp2_with fail
          go_ret
          exact ⟨rfl, HEND.out _ K3⟩
        · go_wp2_with fail
          go_ret
          exact ⟨rfl, HEND.out _ K3⟩
      · have d2 : decide (i ≥ (N : Int)) = false := decide_eq_false hiN
        have d3 : decide ((N : Int) ≤ i) = false := decide_eq_false hiN
        by_cases hj0 : j < 0
        · have d4 : decide (j < 0) = true := decide_eq_true hj0
          clear hKH
          cases hlz : ((L : Int) == 0)
          · go_wp2_with fail
            go_ret
            exact ⟨rfl, HEND.out _ K3⟩
          · go_wp2_with fail
            go_ret
            exact ⟨rfl, HEND.out _ K3⟩
        · have d4 : decide (j < 0) = false := decide_eq_false hj0
          by_cases hjN : (N : Int) ≤ j
          · have d5 : decide (j ≥ (N : Int)) = true := decide_eq_true hjN
            have d6 : decide ((N : Int) ≤ j) = true := decide_eq_true hjN
            clear hKH
            cases hlz : ((L : Int) == 0)
            · go_wp2_with fail
              go_ret
              exact ⟨rfl, HEND.out _ K3⟩
            · go_wp2_with fail
              go_ret
              exact ⟨rfl, HEND.out _ K3⟩
          · have d5 : decide (j ≥ (N : Int)) = false := decide_eq_false hjN
            have d6 : decide ((N : Int) ≤ j) = false := decide_eq_false hjN
            obtain ⟨I, hI⟩ : ∃ I : Nat, i = (I : Int) := ⟨i.toNat, by omega⟩
            obtain ⟨J, hJ⟩ : ∃ J : Nat, j = (J : Int) := ⟨j.toNat, by omega⟩
            go_wp2_with fail
            refine hKH.out _ _ ?_
            clear hKH KK
            have hN0 : 0 < N := by omega
            have hty := HTY.out hN0 w4 I J K3
            subst hI hJ
            clear d1 d2 d3 d4 d5 d6 hi0 hiN hj0 hjN HTY hN0
            refine wp_seq_k (fun KK hKK => ?_)
            have hKH : Hid _ := hKK
            clear hKK
            go_wp2_with (go_at_call 7; refine hty.mono ?_; clear hty; rintro e w5 ⟨g, c5, rfl, t5⟩; have HOF : Hid (OfS w4 w5 g ts I J 0) := t5; clear t5)
            refine hKH.out _ _ ?_
            clear hKH KK
            refine wp_seq_k (fun KK hKK => ?_)
            have hKH : Hid _ := hKK
            clear hKK
            go_wp2_with fail
            go_loopw [12] (fun kv Wr => ∃ k : Nat, kv = .int .i64 (k : Int) ∧ k ≤ N ∧ OfS w4 Wr g ts I J k) (fun kv _ => N - (intOf kv).toNat)
            case atStart => exact ⟨0, rfl, Nat.zero_le _, HOF.out⟩
            case round =>
              obtain ⟨k, rfl, hk, hof⟩ := hrel
              clear HOF
              have HOF : Hid (OfS w4 wr g ts I J k) := hof
              clear hof
              by_cases hlt : k < N
              · have j1 : decide ((k : Int) < (N : Int)) = true := decide_eq_true (by omega)
                have j2 : decide (k < N) = true := decide_eq_true hlt
                have j3 : (k : Int) < (N : Int) := by omega
                have j4 : (0 : Int) ≤ (k : Int) := by omega
                have hwk : IntKind.i64.wrap ((k : Int) + 1) = (k : Int) + 1 := by rw [IntKind.wrap_i64]; omega
                by_cases hki : k = I
                · have s1 : ((k : Int) != (I : Int)) = false := by simp [hki]
                  have HNX : Hid (OfS w4 wr g ts I J (k + 1)) := HOF.out.stay (.inl hki)
                  clear hki HOF
                  go_wp2_with fail
                  go_roundw
                  case rel => exact ⟨k + 1, by go_num, by omega, HNX.out⟩
                  case measure => simp [intOf]; omega
                · have s1 : ((k : Int) != (I : Int)) = true := bne_iff_ne.2 (by omega)
                  by_cases hkj : k = J
                  · have s2 : ((k : Int) != (J : Int)) = false := by simp [hkj]
                    have HNX : Hid (OfS w4 wr g ts I J (k + 1)) := HOF.out.stay (.inr hkj)
                    clear hki hkj HOF
                    go_wp2_with fail
                    go_roundw
                    case rel => exact ⟨k + 1, by go_num, by omega, HNX.out⟩
                    case measure => simp [intOf]; omega
                  · have s2 : ((k : Int) != (J : Int)) = true := bne_iff_ne.2 (by omega)
                    obtain ⟨Q, q1, q2, q3⟩ := HOF.out
                    have hCL := q1.c
                    have hQl : k * 11 + 8 < (tcl Q).length := by rw [tcl_len, q2, HN.out]; omega
                    have HNX : Hid (∀ W', CL W' g ((tcl Q).set (k * 11 + 8) (.int .i64 4)) → Keeps (fun i => i = g) wr W' → OfS w4 W' g ts I J (k + 1)) := fun W' h1 h2 => OfS.next q1 q2 q3 (by rw [HN.out]; exact hlt) (by omega) h1 h2
                    clear q1 q2 q3 hki hkj HOF
                    go_wp2_with (refine wpList_store_c1 rfl rfl _ _ rfl g (k * 11 + 8) rfl 4 rfl hCL hQl ?_; intro w6 h6 k6; have HN6 : Hid (OfS w4 w6 g ts I J (k + 1)) := HNX.out w6 h6 k6; clear h6 k6 HNX hCL)
                    go_roundw
                    case rel => exact ⟨k + 1, by go_num, by omega, HN6.out⟩
                    case measure => simp [intOf]; omega
              · have j1 : decide ((k : Int) < (N : Int)) = false := decide_eq_false (by omega)
                have j2 : decide (k < N) = false := decide_eq_false hlt
                obtain rfl : k = N := by omega
                go_wp2_with fail
                refine hKH.out _ _ ?_
                clear hKH j1 j2 hlt
                have hKW : Keeps (fun _ => False) w4 wr := by obtain ⟨Q, q1, -, -⟩ := HOF.out; exact q1.k
                have HOW : Hid (OfS w wr g ts I J k) := by
                  obtain ⟨Q, q1, q2, q3⟩ := HOF.out
                  exact ⟨Q, ⟨q1.c, q1.s, q1.a, HK24.out.trans q1.k, Nat.le_trans HK24.out.size q1.b⟩, q2, q3⟩
                have hpc := HPC.out wr g c5 I J HOW.out
                clear HPC HOF HOW
                refine wp_seq_k (fun KK hKK => ?_)
                have hKH : Hid _ := hKK
                clear hKK
                go_wp2_with (go_at_call 5; refine hpc.mono ?_; clear hpc; rintro e w8 ⟨xa, xc, m, fc, rfl, ho8, hb8, k8⟩; obtain ⟨hfc, hm⟩ := offT_list HB.out hb8; subst hfc; have HO8 : Hid (w8.ownsRow wr.heap.size 34 4 (.slice xa m.length xc) m.length (ecl m)) := ho8; have HM : Hid (m = l.filter (inE I J)) := hm; clear ho8 hb8 hm)
                refine hKH.out _ _ ?_
                clear hKH KK
                have HE2 : Hid (EL w8 xa m) := by
                  obtain ⟨a', c', e, h, -⟩ := el_of HO8.out
                  rw [(Value.slice.inj e).1]
                  exact h
                have HEL : Hid (EL w8 va l) := fun i hi => by
                  obtain ⟨b, off, e, hc⟩ := HE1.out i hi
                  exact ⟨b, off, e, fun j v hv => (hKW.trans k8).cell (hc j v hv) (fun e => e)⟩
                have HAP : Hid (∀ e ∈ l, e.f ≠ e.t) := fun e he => by
                  rcases HB.out with ⟨-, e0, -⟩ | ⟨-, -, -, h⟩
                  · exact absurd e0 (by decide)
                  · exact ((h e).1 he).apart
                have K8 : Keeps (fun _ => False) w w8 := (K3.trans hKW).trans k8
                clear HO8 HE1 K3 HK24 hKW k8 HB
                generalize hM2 : m.length = M2 at *
                have HM2 : Hid (m.length = M2) := hM2
                clear hM2
                go_wp2_with fail
                go_loopg [15, 16] L (fun gh av kv Wr => ∃ k : Nat, gh + k = L ∧ av = .int .i64 ((((l.take k).filter (inE I J)).length : Nat) : Int) ∧ kv = .int .i64 (k : Int) ∧ k ≤ L ∧ Keeps (fun _ => False) w8 Wr)
                case atStart => exact ⟨0, rfl, rfl, rfl, Nat.zero_le _, Keeps.refl _ _⟩
                case round =>
                  obtain ⟨k, hgh, rfl, rfl, hk, kr⟩ := hrel
                  by_cases hlt : k < L
                  · have j1 : decide ((k : Int) < (L : Int)) = true := decide_eq_true (by omega)
                    have j2 : decide (k < L) = true := decide_eq_true hlt
                    have j3 : (k : Int) < (L : Int) := by omega
                    have j4 : (0 : Int) ≤ (k : Int) := by omega
                    have hwk : IntKind.i64.wrap ((k : Int) + 1) = (k : Int) + 1 := by rw [IntKind.wrap_i64]; omega
                    have hkl : k < l.length := by rw [HL.out]; exact hlt
                    obtain ⟨b, off, ex, hc⟩ := HEL.out k hkl
                    subst ex
                    have hR1 := run_ed (W := wr) (fun j v e => kr.cell (hc j v e) (fun e => e))
                    have hft0 := HAP.out _ (getD_mem ed0 hkl)
                    have HNO : Hid (inE I J (l.getD k ed0) = false → ((l.take (k + 1)).filter (inE I J)).length = ((l.take k).filter (inE I J)).length) := fun h => by rw [fil_take hkl, if_neg (by rw [h]; decide), List.append_nil]
                    have HYE : Hid (inE I J (l.getD k ed0) = true → ((l.take k).filter (inE I J)).length < M2 ∧ ((l.take (k + 1)).filter (inE I J)).length = ((l.take k).filter (inE I J)).length + 1 ∧ m.getD ((l.take k).filter (inE I J)).length ed0 = l.getD k ed0) := fun h => by
                      obtain ⟨f1, f2⟩ := fil_at hkl h
                      rw [← HM.out] at f1 f2
                      refine ⟨by rw [← HM2.out]; exact f1, by rw [fil_take hkl, if_pos h, List.length_append]; rfl, f2⟩
                    have hAl : ((l.take k).filter (inE I J)).length ≤ 4294967296 := Nat.le_trans (List.length_filter_le _ _) (by rw [List.length_take]; omega)
                    clear hc hkl
                    generalize ((l.take k).filter (inE I J)).length = A at *
                    generalize l.getD k ed0 = x at *
                    have hOC := all_oneCell_ed x
                    obtain ⟨W4, hW4⟩ : ∃ W4, W4 = wr.alloc (.cells #[.int .i64 0, .int .i64 0, .int .i64 0, .int .i64 0] 34) := ⟨_, rfl⟩
                    have k4 : Keeps (fun _ => False) wr W4 := by rw [hW4]; exact (Keeps.refl _ wr).alloc _
                    have hU4 : CL W4 wr.heap.size ed0.cells := by rw [hW4]; exact CL.made wr ed0.cells _
                    have HW4 : Hid (W4 = wr.alloc (.cells #[.int .i64 0, .int .i64 0, .int .i64 0, .int .i64 0] 34)) := hW4
                    obtain ⟨xf, hxf⟩ : ∃ xf, xf = x.f := ⟨_, rfl⟩
                    obtain ⟨xt, hxt⟩ : ∃ xt, xt = x.t := ⟨_, rfl⟩
                    have HXF : Hid (xf = x.f ∧ xt = x.t) := ⟨hxf, hxt⟩
                    have hft : xf ≠ xt := by rw [hxf, hxt]; exact hft0
                    have s0 : (xf == xt) = false := beq_eq_false_iff_ne.2 hft
                    clear hW4 hxf hxt hft0
                    by_cases hfi : xf = (I : Int)
                    · have s1 : (xf != (I : Int)) = false := by simp [hfi]
                      by_cases hti : xt = (I : Int)
                      · exact absurd (hfi.trans hti.symm) hft
                      · have s3 : (xt != (I : Int)) = true := bne_iff_ne.2 hti
                        by_cases htj : xt = (J : Int)
                        · have s4 : (xt != (J : Int)) = false := by simp [htj]
                          obtain ⟨hAM, HNX, HXA⟩ := HYE.out (by simp only [inE, HXF.out.1.symm, HXF.out.2.symm]; simp [hfi, htj])
                          have a1 : decide ((A : Int) ≥ (M2 : Int)) = false := decide_eq_false (by omega)
                          have a2 : decide ((M2 : Int) ≤ (A : Int)) = false := decide_eq_false (by omega)
                          have a3 : decide (M2 ≤ A) = false := decide_eq_false (by omega)
                          have a4 : (A : Int) < (M2 : Int) := by omega
                          have a5 : (0 : Int) ≤ (A : Int) := by omega
                          have a6 : IntKind.i64.wrap ((A : Int) + 1) = (A : Int) + 1 := by rw [IntKind.wrap_i64]; omega
                          obtain ⟨b2, o2, ex2, hc2⟩ := HE2.out A (by rw [HM2.out]; exact hAM)
                          subst ex2
                          rw [HXA] at hc2
                          have HN2 : Hid (((l.take (k + 1)).filter (inE I J)).length = A + 1) := HNX
                          have HC2 : Hid (∀ W, Keeps (fun _ => False) w8 W → (loadVar 34 ⟨b2, o2 + A * 4, none⟩).run Try.prog W = .ok (.agg x.cells.toArray) W) := fun W kk => run_ed (fun j v e => kk.cell (hc2 j v e) (fun e => e))
                          clear HNO HYE HNX HXA hc2 hAM
                          go_wp2_with (first | (refine wpList_load_runL rfl 34 _ rfl ⟨b, off + k * 4, none⟩ rfl _ hR1 ?_; clear hR1) | (rw [← HW4.out]; clear HW4; refine wpList_store_cl rfl 34 _ _ rfl wr.heap.size 0 4 x.cells.toArray rfl rfl rfl hU4 (by show 4 ≤ 4; decide) iEd hOC ?_; intro w5 hc5 k5 hsz5; clear hsz5; have hI5 : CL w5 wr.heap.size x.cells := hc5; clear hc5; have K45 : Keeps (fun _ => False) wr w5 := k4.trans' k5 (fun _ _ e => e) (fun i2 hi2 e => (by have e : i2 = wr.heap.size := e; omega)); clear k4 k5 hU4; have z0 := hI5.c 0 _ rfl; have z1 := hI5.c 1 _ rfl; rw [← HXF.out.1] at z0; rw [← HXF.out.2] at z1))
                          have HRA : Hid (∀ w', (∃ u : KS w5, w' = u.1) → (loadVar 34 ⟨b2, o2 + A * 4, none⟩).run Try.prog w' = .ok (.agg x.cells.toArray) w') := by
                            rintro _ ⟨u, rfl⟩
                            exact HC2.out _ ((kr.trans K45).trans u.property)
                          have HRB : Hid (∀ w', (∃ u : KS w5, w' = u.1) → (loadVar 34 ⟨wr.heap.size, 0, none⟩).run Try.prog w' = .ok (.agg x.cells.toArray) w') := by
                            rintro _ ⟨u, rfl⟩
                            exact run_ed (o := 0) (fun j v e => by rw [Nat.zero_add]; exact u.property.cell (hI5.c j v e) (fun e => e))
                          have HE : Hid (∀ w, (Op.equalIn 10000 34 (.agg x.cells.toArray) (.agg x.cells.toArray)).run Try.prog w = .ok true w) := fun w => eql_ed x w
                          have hNE : Nonempty (KS w5) := ⟨⟨w5, Keeps.refl _ w5⟩⟩
                          clear hI5 z0 z1
                          refine wp_region_ks (by kernel_rfl) (by kernel_rfl) ?_
                          (repeat (first | go_big_quiet_skip | (refine wpQuiet_load (by kernel_rfl) 34 _ rfl ⟨b2, o2 + A * 4, none⟩ rfl _ HRA.out ?_; clear HRA; (try simp only [Act.put, List.setIfInBounds_toArray, List.set_cons_zero, List.set_cons_succ])) | (refine wpQuiet_load (by kernel_rfl) 34 _ rfl ⟨wr.heap.size, 0, none⟩ rfl _ HRB.out ?_; clear HRB; (try simp only [Act.put, List.setIfInBounds_toArray, List.set_cons_zero, List.set_cons_succ])) | (refine wpQuiet_neq (by kernel_rfl) 34 _ _ _ rfl _ _ rfl rfl true (by kernel_rfl) HE.out ?_; (try simp only [Act.put, List.setIfInBounds_toArray, List.set_cons_zero, List.set_cons_succ])) | (go_big_quiet_step (fail))))
                          refine wpQuiet_nil ?_
                          rintro _ ⟨u, rfl⟩
                          have ku := (kr.trans K45).trans u.property
                          generalize u.val = wu at *
                          clear hNE
                          go_wp2_with fail
                          go_roundg (gk - 1)
                          case measure => omega
                          case rel => exact ⟨k + 1, by omega, by rw [HN2.out]; go_num, by go_num, by omega, ku⟩
                        · have s4 : (xt != (J : Int)) = true := bne_iff_ne.2 htj
                          have HNX : Hid (((l.take (k + 1)).filter (inE I J)).length = A) := HNO.out (by simp only [inE, HXF.out.1.symm, HXF.out.2.symm]; simp [hti, htj])
                          clear HNO HYE
                          go_wp2_with (first | (refine wpList_load_runL rfl 34 _ rfl ⟨b, off + k * 4, none⟩ rfl _ hR1 ?_; clear hR1) | (rw [← HW4.out]; clear HW4; refine wpList_store_cl rfl 34 _ _ rfl wr.heap.size 0 4 x.cells.toArray rfl rfl rfl hU4 (by show 4 ≤ 4; decide) iEd hOC ?_; intro w5 hc5 k5 hsz5; clear hsz5; have hI5 : CL w5 wr.heap.size x.cells := hc5; clear hc5; have K45 : Keeps (fun _ => False) wr w5 := k4.trans' k5 (fun _ _ e => e) (fun i2 hi2 e => (by have e : i2 = wr.heap.size := e; omega)); clear k4 k5 hU4; have z0 := hI5.c 0 _ rfl; have z1 := hI5.c 1 _ rfl; rw [← HXF.out.1] at z0; rw [← HXF.out.2] at z1))
                          go_roundg (gk - 1)
                          case measure => omega
                          case rel => exact ⟨k + 1, by omega, by rw [HNX.out], by go_num, by omega, kr.trans K45⟩
                    · have s1 : (xf != (I : Int)) = true := bne_iff_ne.2 hfi
                      by_cases hfj : xf = (J : Int)
                      · have s2 : (xf != (J : Int)) = false := by simp [hfj]
                        by_cases hti : xt = (I : Int)
                        · have s3 : (xt != (I : Int)) = false := by simp [hti]
                          obtain ⟨hAM, HNX, HXA⟩ := HYE.out (by simp only [inE, HXF.out.1.symm, HXF.out.2.symm]; simp [hfj, hti])
                          have a1 : decide ((A : Int) ≥ (M2 : Int)) = false := decide_eq_false (by omega)
                          have a2 : decide ((M2 : Int) ≤ (A : Int)) = false := decide_eq_false (by omega)
                          have a3 : decide (M2 ≤ A) = false := decide_eq_false (by omega)
                          have a4 : (A : Int) < (M2 : Int) := by omega
                          have a5 : (0 : Int) ≤ (A : Int) := by omega
                          have a6 : IntKind.i64.wrap ((A : Int) + 1) = (A : Int) + 1 := by rw [IntKind.wrap_i64]; omega
                          obtain ⟨b2, o2, ex2, hc2⟩ := HE2.out A (by rw [HM2.out]; exact hAM)
                          subst ex2
                          rw [HXA] at hc2
                          have HN2 : Hid (((l.take (k + 1)).filter (inE I J)).length = A + 1) := HNX
                          have HC2 : Hid (∀ W, Keeps (fun _ => False) w8 W → (loadVar 34 ⟨b2, o2 + A * 4, none⟩).run Try.prog W = .ok (.agg x.cells.toArray) W) := fun W kk => run_ed (fun j v e => kk.cell (hc2 j v e) (fun e => e))
                          clear HNO HYE HNX HXA hc2 hAM
                          go_wp2_with (first | (refine wpList_load_runL rfl 34 _ rfl ⟨b, off + k * 4, none⟩ rfl _ hR1 ?_; clear hR1) | (rw [← HW4.out]; clear HW4; refine wpList_store_cl rfl 34 _ _ rfl wr.heap.size 0 4 x.cells.toArray rfl rfl rfl hU4 (by show 4 ≤ 4; decide) iEd hOC ?_; intro w5 hc5 k5 hsz5; clear hsz5; have hI5 : CL w5 wr.heap.size x.cells := hc5; clear hc5; have K45 : Keeps (fun _ => False) wr w5 := k4.trans' k5 (fun _ _ e => e) (fun i2 hi2 e => (by have e : i2 = wr.heap.size := e; omega)); clear k4 k5 hU4; have z0 := hI5.c 0 _ rfl; have z1 := hI5.c 1 _ rfl; rw [← HXF.out.1] at z0; rw [← HXF.out.2] at z1))
                          have HRA : Hid (∀ w', (∃ u : KS w5, w' = u.1) → (loadVar 34 ⟨b2, o2 + A * 4, none⟩).run Try.prog w' = .ok (.agg x.cells.toArray) w') := by
                            rintro _ ⟨u, rfl⟩
                            exact HC2.out _ ((kr.trans K45).trans u.property)
                          have HRB : Hid (∀ w', (∃ u : KS w5, w' = u.1) → (loadVar 34 ⟨wr.heap.size, 0, none⟩).run Try.prog w' = .ok (.agg x.cells.toArray) w') := by
                            rintro _ ⟨u, rfl⟩
                            exact run_ed (o := 0) (fun j v e => by rw [Nat.zero_add]; exact u.property.cell (hI5.c j v e) (fun e => e))
                          have HE : Hid (∀ w, (Op.equalIn 10000 34 (.agg x.cells.toArray) (.agg x.cells.toArray)).run Try.prog w = .ok true w) := fun w => eql_ed x w
                          have hNE : Nonempty (KS w5) := ⟨⟨w5, Keeps.refl _ w5⟩⟩
                          clear hI5 z0 z1
                          refine wp_region_ks (by kernel_rfl) (by kernel_rfl) ?_
                          (repeat (first | go_big_quiet_skip | (refine wpQuiet_load (by kernel_rfl) 34 _ rfl ⟨b2, o2 + A * 4, none⟩ rfl _ HRA.out ?_; clear HRA; (try simp only [Act.put, List.setIfInBounds_toArray, List.set_cons_zero, List.set_cons_succ])) | (refine wpQuiet_load (by kernel_rfl) 34 _ rfl ⟨wr.heap.size, 0, none⟩ rfl _ HRB.out ?_; clear HRB; (try simp only [Act.put, List.setIfInBounds_toArray, List.set_cons_zero, List.set_cons_succ])) | (refine wpQuiet_neq (by kernel_rfl) 34 _ _ _ rfl _ _ rfl rfl true (by kernel_rfl) HE.out ?_; (try simp only [Act.put, List.setIfInBounds_toArray, List.set_cons_zero, List.set_cons_succ])) | (go_big_quiet_step (fail))))
                          refine wpQuiet_nil ?_
                          rintro _ ⟨u, rfl⟩
                          have ku := (kr.trans K45).trans u.property
                          generalize u.val = wu at *
                          clear hNE
                          go_wp2_with fail
                          go_roundg (gk - 1)
                          case measure => omega
                          case rel => exact ⟨k + 1, by omega, by rw [HN2.out]; go_num, by go_num, by omega, ku⟩
                        · have s3 : (xt != (I : Int)) = true := bne_iff_ne.2 hti
                          by_cases htj : xt = (J : Int)
                          · exact absurd (hfj.trans htj.symm) hft
                          · have s4 : (xt != (J : Int)) = true := bne_iff_ne.2 htj
                            have HNX : Hid (((l.take (k + 1)).filter (inE I J)).length = A) := HNO.out (by simp only [inE, HXF.out.1.symm, HXF.out.2.symm]; simp [hti, htj])
                            clear HNO HYE
                            go_wp2_with (first | (refine wpList_load_runL rfl 34 _ rfl ⟨b, off + k * 4, none⟩ rfl _ hR1 ?_; clear hR1) | (rw [← HW4.out]; clear HW4; refine wpList_store_cl rfl 34 _ _ rfl wr.heap.size 0 4 x.cells.toArray rfl rfl rfl hU4 (by show 4 ≤ 4; decide) iEd hOC ?_; intro w5 hc5 k5 hsz5; clear hsz5; have hI5 : CL w5 wr.heap.size x.cells := hc5; clear hc5; have K45 : Keeps (fun _ => False) wr w5 := k4.trans' k5 (fun _ _ e => e) (fun i2 hi2 e => (by have e : i2 = wr.heap.size := e; omega)); clear k4 k5 hU4; have z0 := hI5.c 0 _ rfl; have z1 := hI5.c 1 _ rfl; rw [← HXF.out.1] at z0; rw [← HXF.out.2] at z1))
                            go_roundg (gk - 1)
                            case measure => omega
                            case rel => exact ⟨k + 1, by omega, by rw [HNX.out], by go_num, by omega, kr.trans K45⟩
                      · have s2 : (xf != (J : Int)) = true := bne_iff_ne.2 hfj
                        have HNX : Hid (((l.take (k + 1)).filter (inE I J)).length = A) := HNO.out (by simp only [inE, HXF.out.1.symm, HXF.out.2.symm]; simp [hfi, hfj])
                        clear HNO HYE
                        refine wp_seq_k (fun KA hKA => ?_)
                        have hKHA : Hid _ := hKA
                        clear hKA
                        go_wp2_with (fail)
                        refine hKHA.out _ _ ?_
                        clear hKHA KA
                        refine wp_seq_k (fun KB hKB => ?_)
                        have hKHB : Hid _ := hKB
                        clear hKB
                        refine wp_block ?_
                        refine wp_seq_k (fun KC hKC => ?_)
                        have hKHC : Hid _ := hKC
                        clear hKC
                        go_wp2_with (first | (refine wpList_load_runL rfl 34 _ rfl ⟨b, off + k * 4, none⟩ rfl _ hR1 ?_; clear hR1) | (rw [← HW4.out]; clear HW4; refine wpList_store_cl rfl 34 _ _ rfl wr.heap.size 0 4 x.cells.toArray rfl rfl rfl hU4 (by show 4 ≤ 4; decide) iEd hOC ?_; intro w5 hc5 k5 hsz5; clear hsz5; have hI5 : CL w5 wr.heap.size x.cells := hc5; clear hc5; have K45 : Keeps (fun _ => False) wr w5 := k4.trans' k5 (fun _ _ e => e) (fun i2 hi2 e => (by have e : i2 = wr.heap.size := e; omega)); clear k4 k5 hU4; have z0 := hI5.c 0 _ rfl; have z1 := hI5.c 1 _ rfl; rw [← HXF.out.1] at z0; rw [← HXF.out.2] at z1))
                        refine hKHC.out _ _ ?_
                        clear hKHC KC
                        refine wp_seq_k (fun KD hKD => ?_)
                        clear hKD
                        refine wp_seq_k (fun KE hKE => ?_)
                        have hKHE : Hid _ := hKE
                        clear hKE
                        go_wp2_with fail
                        refine hKHE.out _ _ ?_
                        clear hKHE KE
                        go_wp2_with fail
                        refine hKHB.out _ _ ?_
                        clear hKHB KB
                        go_wp2_with fail
                        go_roundg (gk - 1)
                        case measure => omega
                        case rel => exact ⟨k + 1, by omega, by rw [HNX.out], by go_num, by omega, kr.trans K45⟩
                  · have j1 : decide ((k : Int) < (L : Int)) = false := decide_eq_false (by omega)
                    have j2 : decide (k < L) = false := decide_eq_false hlt
                    have hA : ((l.take k).filter (inE I J)).length = M2 := by rw [List.take_of_length_le (by rw [HL.out]; omega), ← HM.out]; exact HM2.out
                    rw [hA]
                    clear hA
                    have s1 : ((M2 : Int) == (M2 : Int)) = true := by simp
                    go_wp2_with fail
                    go_ret
                    exact ⟨rfl, HEND.out _ (K8.trans kr)⟩
  · have d1 : (ec != 0) = true := bne_iff_ne.2 hec
    have e0 := HL0.out hec
    have d2 : (ec == 0) = false := beq_eq_false_iff_ne.2 hec
    subst e0
    clear hec
    go_wp2_with fail
    go_ret
    exact ⟨rfl, HEND.out _ K3⟩
theorem gpairs_all {W : World} {a : Option Addr} {cap : Nat} {ts : List Tv} {p : Nat → Lp} {bulk : Nat} (h : TxD W a ts p bulk) (hb : bulk ≤ 1048576) (i : Int) (_ : I64 i) (j : Int) (_ : I64 j) : Calls Try.prog 3 #[.slice a ts.length cap, .int .i64 i, .int .i64 j] W fun e w' => e = .returned (.bool true) ∧ Below W.heap.size W w' := gpairs_any h.t h.z (h.tsi hb) i j
end Go.Proofs.Ythmlppepgcjfgaa
