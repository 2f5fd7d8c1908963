import Derived.Test.YthchbcfecconbaaGreatDoorSf
namespace Go.Proofs.YthchbcfecconbaaGreatDoor
open Go.RowKit Go.Deep Go.ChangeShapes Go.WideShapes Go.ChangeAt
attribute [local go_sem] Oper.semAt_some run_store_nf run_store_f
set_option maxHeartbeats 2000000 in
set_option maxRecDepth 1000000 in
theorem mseries_any {w : World} {a ao : Option Addr} {cap co : Nat} {ps : List (List Ins)} {os : List Int} (hT : PT w) (hNT : NT w)
    (hP : PLL w a ps) (hqs : ∀ p ∈ ps, ∀ i, i < p.length → In64 (p.getD i ins0).xN ∧ In64 (p.getD i ins0).yN) (hlens : ∀ p ∈ ps, p.length * 88 ≤ 140737488355328) (hps : ps.length ≤ 1048576)
    (hO : NUM w ao os) (hos : ∀ i, In64 (os.getD i 0)) (hob : (os.length + 2) * 8 ≤ 140737488355328) (hoz : ao = none → co = 0) (fuel : Int) :
    Calls Tryz.prog 4 #[.slice a ps.length cap, .slice ao os.length co, .int .i64 fuel] w fun e w' => e = .returned (.bool true) ∧ Below w.heap.size w w' := by
  have hH := head11 hT hNT
  have hLT := hT.lt
  clear hT hNT
  have HRA : Hid (∀ W, Keeps (fun _ => False) w W → ∀ ap cp a6 c6, PLL W ap ps → NUM W a6 os → Calls Tryz.prog 16 #[.slice ap ps.length cp, .slice a6 os.length c6, .int .i64 fuel] W fun e w' => ∃ v x, e = .returned (.tuple #[v, .int .i64 x]) ∧ SerP W w' ps os fuel v x ∧ Keeps (fun _ => False) W w') := fun W k ap cp a6 c6 h1 h2 => series_any (hLT.keep k) h1 (fun p hp => by have := hlens p hp; omega) h2 (by omega) fuel
  have HDA : Hid (∀ W, Keeps (fun _ => False) w W → ∀ ak ck, NUM W ak os → (∀ b off, ak = some ⟨b, off, none⟩ → b < W.heap.size) → Calls Tryz.prog 17 #[.slice a ps.length cap, .slice ak os.length ck, .int .i64 fuel] W fun e w' => ∃ v x, e = .returned (.tuple #[v, .int .i64 x]) ∧ DSerP W w' ps os fuel v x ∧ Keeps (fun _ => False) W w') := fun W k ak ck h1 h2 => rseries_any (hP.keep k) (fun p hp => by have := hlens p hp; omega) h1 h2 hos hqs (by omega) fuel
  have HPr : Hid (∀ W p ai ci, p ∈ ps → ISL W ai p → Calls Tryz.prog 7 #[.slice ai p.length ci] W fun e w' => ∃ v, e = .returned v ∧ w'.ownsRow W.heap.size 69 11 v p.length (icl p) ∧ Keeps (fun _ => False) W w') := fun W p ai ci hp hI => prog_any hI (hlens p hp)
  have HBA : Hid (∀ W p ai ci, p ∈ ps → ISL W ai p → Calls Tryz.prog 12 #[.slice ai p.length ci] W fun e w' => ∃ v, e = .returned v ∧ w'.ownsRow W.heap.size 62 11 v p.length (icl p) ∧ Keeps (fun _ => False) W w') := fun W p ai ci hp hI => backs_any hI (hlens p hp)
  have HSA : Hid (∀ W p a1 c1 a2 c2, p ∈ ps → ISL W a1 p → ISL W a2 p → Calls Tryz.prog 15 #[.slice a1 p.length c1, .slice a2 p.length c2] W fun e w' => e = .returned (.bool true) ∧ Keeps (fun _ => False) W w') := fun W p a1 c1 a2 c2 hp h1 h2 => same_any h1 h2 (by have := hlens p hp; omega)
  have HNA : Hid (∀ W a1 c1 a2 c2, NUM W a1 os → NUM W a2 os → Calls Tryz.prog 13 #[.slice a1 os.length c1, .slice a2 os.length c2] W fun e w' => e = .returned (.bool true) ∧ Keeps (fun _ => False) W w') := fun W a1 c1 a2 c2 h1 h2 => sameNums_ok c1 c2 h1 h2 (by omega)
  obtain ⟨N, hN⟩ : ∃ N, ps.length = N := ⟨_, rfl⟩
  obtain ⟨n, hn⟩ : ∃ n, os.length = n := ⟨_, rfl⟩
  rw [hN] at hps HRA HDA ⊢
  rw [hn] at hob HRA HDA HNA ⊢
  have HN : Hid (ps.length = N) := hN
  have Hn : Hid (os.length = n) := hn
  clear hN hn hlens hqs hos hLT
  have hn0 : (0 : Int) ≤ (n : Int) := by omega
  have hn3 : (n : Int) < (n : Int) + 2 := by omega
  have hn4 : (n : Int) + 1 < (n : Int) + 2 := by omega
  have hn5 : (0 : Int) ≤ (n : Int) + 1 := by omega
  have hnw : IntKind.i64.wrap ((n : Int) + 1) = (n : Int) + 1 := by rw [IntKind.wrap_i64]; omega
  have hn1t : ((n : Int) + 1).toNat = n + 1 := by omega
  go_enter Tryz.func4, Tryz.ntmps4
  go_wp2_with (go_at_call 6; refine hH.mono ?_; clear hH; rintro e w1 ⟨rfl, k1⟩)
  go_loopw [7, 8] (fun lv iv Wr => ∃ (k : Nat) (X : Nat → Option Addr) (XC : Nat → Nat), iv = .int .i64 (k : Int) ∧ k ≤ N ∧ LP w1 Wr lv k ps X XC ∧ Keeps (fun _ => False) w1 Wr) (fun _ iv _ => N - (intOf iv).toNat)
  case atStart => exact ⟨0, fun _ => none, fun _ => 0, rfl, Nat.zero_le _, LP.first _ _, Keeps.refl _ w1⟩
  case round =>
    obtain ⟨k, X, XC, rfl, hk, hLP, kr⟩ := hrel
    by_cases hlt : k < N
    · have hltI : decide ((k : Int) < (N : Int)) = true := decide_eq_true (by omega)
      have hltn : decide (k < N) = true := decide_eq_true hlt
      have hltJ : (k : Int) < (N : Int) := by omega
      have hk0 : (0 : Int) ≤ (k : Int) := by omega
      have hw1 : IntKind.i64.wrap ((k : Int) + 1) = (k : Int) + 1 := by rw [IntKind.wrap_i64]; omega
      obtain ⟨p, hp⟩ : ∃ p, ps[k]? = some p := ⟨_, List.getElem?_eq_getElem (by rw [HN.out]; exact hlt)⟩
      obtain ⟨b, off, ai, ci, rfl, hc, hI⟩ := hP k p hp
      have c1 := (k1.trans kr).cell hc (fun e => e)
      have hpr := HPr.out wr p ai ci (List.mem_of_getElem? hp) (hI.keep (k1.trans kr))
      have hgp := getP_of hp
      have Hgp : Hid (ps.getD k [] = p) := hgp
      obtain ⟨P, hPl⟩ : ∃ P, p.length = P := ⟨_, rfl⟩
      rw [hPl] at c1 hpr
      have HPl : Hid (p.length = P) := hPl
      clear hPl hgp hc hI hp HPr HRA HDA HBA HSA HNA hP hO hoz
      go_wp2_with (first | (go_at_call 7; refine hpr.mono ?_; clear hpr; rintro e w2 ⟨vp, rfl, hown, k2⟩; obtain ⟨ap, cp, rfl, hI2, hB2⟩ := isl_own hown HPl.out; clear hown; obtain ⟨v3, w3, r3, hL3, k3⟩ := hLP.next (c := cp) kr.size k2 (by rw [Hgp.out]; exact hI2) hB2 (by omega); rw [Hgp.out, HPl.out] at r3; have HL3 : Hid _ := hL3; clear hL3; have K3 : Keeps (fun _ => False) w1 w3 := (kr.trans k2).trans' k3 (fun _ _ e => e) (fun i hi e => by have := owns_baseD hLP.o i e; omega)) | (at_builtin; refine wpList_append_q rfl _ _ _ rfl _ _ _ w3 rfl rfl r3 ?_; clear r3))
      go_roundw
      case rel => exact ⟨k + 1, _, _, by go_num, by omega, HL3.out, K3⟩
      case measure => simp [intOf]; omega
    · have hltI : decide ((k : Int) < (N : Int)) = false := decide_eq_false (by omega)
      have hltn : decide (k < N) = false := decide_eq_false hlt
      obtain rfl : k = N := by omega
      obtain ⟨al, cl, rfl, hPL⟩ : ∃ al cl, _ = Value.slice al k cl ∧ PLL wr al ps := by
        have := lp_pll (by rw [HN.out]; exact hLP)
        rw [HN.out] at this
        exact this
      have K2 := k1.trans kr
      obtain ⟨ak, ck, w3, a5, c5, w5, g6, c6, w6, r1, r2, r3, hp⟩ := preps2 (co := co) Hn.out (hO.keep K2) hob hoz
      have h6 := hp.h6
      have h6a : n ≤ c6 := by omega
      have K6 := K2.trans hp.k
      have hs := HRA.out w6 K6 al cl _ c6 (hPL.keep hp.k) hp.nr
      have Hhp : Hid _ := hp
      have HPL : Hid (∀ W, Keeps (fun _ => False) w6 W → PLL W al ps) := fun W k => hPL.keep (hp.k.trans k)
      have HPA : Hid (∀ W, Keeps (fun _ => False) w6 W → PLL W a ps) := fun W k => hP.keep (K6.trans k)
      clear hp hPL hLP HRA HPr hP hO hoz hlt
      go_wp2_with (first | (at_builtin; refine wpList_append_q rfl _ _ _ rfl _ _ _ w3 rfl rfl r1 ?_; clear r1) | (at_builtin; refine wpList_append_q rfl _ _ _ rfl _ _ _ w5 rfl rfl r2 ?_; clear r2) | (at_builtin; refine wpList_append_q rfl _ _ _ rfl _ _ _ w6 rfl rfl r3 ?_; clear r3) | (go_at_call 16; refine hs.mono ?_; clear hs; rintro e w7 ⟨v7, x7, rfl, hP7, k7⟩; obtain ⟨av, Nv, cv, g, B, M, F, rfl, hNv, h16, hav, hAP, hFc, hD7⟩ := serp_form hP7; rw [Hn.out] at h16 hAP; simp only [Hn.out] at hFc hD7; rw [HN.out] at hNv; have HD7 : Hid _ := hD7; have HAP : Hid _ := hAP; have HFc : Hid _ := hFc; have Hav : Hid _ := hav; have H16 : Hid _ := h16; clear hP7 hD7 hAP hFc hav h16; have hd := HDA.out w7 (K6.trans k7) ak ck (Hhp.out.nk.keep k7) (fun b off e => Nat.lt_of_lt_of_le (Hhp.out.bk b off e) k7.size); clear HDA) | (go_at_call 17; refine hd.mono ?_; clear hd; rintro e w8 ⟨v8, x8, rfl, hP8, k8⟩; obtain ⟨rfl, aw, cw, rfl, hDc⟩ := HD7.out _ _ _ _ hP8; have HDc : Hid _ := hDc; clear HD7 hP8 hDc; have K68 := k7.trans k8; have HAP8 : Hid _ := HAP.out.keep k8) | (go_at_call 10; refine (num11 _ _).mono ?_; rintro e wn ⟨rfl, en⟩; subst wn))
      go_loopw [17] (fun iv Wr => ∃ j : Nat, iv = .int .i64 (j : Int) ∧ j ≤ Nv ∧ Keeps (fun _ => False) w8 Wr) (fun iv _ => Nv - (intOf iv).toNat)
      case atStart => exact ⟨0, rfl, Nat.zero_le _, Keeps.refl _ w8⟩
      case round =>
        obtain ⟨j, rfl, hj, kr2⟩ := hrel
        by_cases hlt : j < Nv
        · have hltI : decide ((j : Int) < (Nv : Int)) = true := decide_eq_true (by omega)
          have hltn : decide (j < Nv) = true := decide_eq_true hlt
          have hltJ : (j : Int) < (Nv : Int) := by omega
          have hk0 : (0 : Int) ≤ (j : Int) := by omega
          have hw1 : IntKind.i64.wrap ((j : Int) + 1) = (j : Int) + 1 := by rw [IntKind.wrap_i64]; omega
          obtain rfl := Hav.out (by omega)
          obtain ⟨b, ai, ci, rfl, hNM, hcs⟩ := HDc.out j hlt
          have C0 := ks_cell ((k8.trans kr2).cell (HFc.out j hlt 0 _ rfl) (fun e => e))
          have C1 := ks_cell ((k8.trans kr2).cell (HFc.out j hlt 1 _ rfl) (fun e => e))
          have C2 := ks_cell ((k8.trans kr2).cell (HFc.out j hlt 2 _ rfl) (fun e => e))
          have C3 := ks_cell ((k8.trans kr2).cell (HFc.out j hlt 3 _ rfl) (fun e => e))
          have D0 := ks_cell (kr2.cell (hcs 0 _ rfl) (fun e => e))
          have D1 := ks_cell (kr2.cell (hcs 1 _ rfl) (fun e => e))
          have D2 := ks_cell (kr2.cell (hcs 2 _ rfl) (fun e => e))
          have D3 := ks_cell (kr2.cell (hcs 3 _ rfl) (fun e => e))
          rw [Nat.add_zero] at C0 D0
          have hsm := fun u : KS wr => same_ok (w := u.1) (xs := M j) n ci (F j).1.oc (F j).1.rs ((F j).2 : Int) ((NUM.ofCL (HAP8.out.c j hlt)).keep (kr2.trans u.2)) (hNM.keep (kr2.trans u.2)) (by rw [HAP8.out.l j hlt]; omega)
          rw [HAP8.out.l j hlt] at hsm
          generalize (F j).1.oc = oc at *
          generalize (F j).1.rs = rs at *
          generalize ((F j).2 : Int) = c at *
          generalize B j = bj at *
          have hNE : Nonempty (KS wr) := ⟨⟨wr, Keeps.refl _ wr⟩⟩
          clear hcs hNM
          go_wp2_with fail
          refine wp_region_ks (by kernel_rfl) (by kernel_rfl) ?_
          repeat (go_big_quiet_step ((go_at_call 11; refine (hsm _).mono ?_; rintro x w9 ⟨rfl, k9⟩; exact ⟨rfl, ⟨_, Keeps.trans (KS.property _) k9⟩, rfl⟩)))
          refine wpQuiet_nil ?_
          rintro _ ⟨U, rfl⟩
          have kU := kr2.trans U.property
          clear C0 C1 C2 C3 D0 D1 D2 D3 hNE
          go_wp2_with fail
          go_roundw
          case rel => exact ⟨j + 1, by go_num, by omega, kU⟩
          case measure => simp [intOf]; omega
        · have hltI : decide ((j : Int) < (Nv : Int)) = false := decide_eq_false (by omega)
          have hltn : decide (j < Nv) = false := decide_eq_false hlt
          obtain ⟨w9, hw9⟩ : ∃ w9, w9 = wr := ⟨_, rfl⟩
          subst wr
          have K69 := K68.trans kr2
          have HAP9 : Hid _ := HAP8.out.keep kr2
          clear HDc HFc HAP HAP8 hlt
          go_wp2
          go_loopw [18] (fun iv Wr => ∃ q : Nat, iv = .int .i64 (q : Int) ∧ q ≤ k ∧ Keeps (fun _ => False) w9 Wr) (fun iv _ => k - (intOf iv).toNat)
          case atStart => exact ⟨0, rfl, Nat.zero_le _, Keeps.refl _ w9⟩
          case round =>
            obtain ⟨q, rfl, hq, kr3⟩ := hrel
            by_cases hlt : q < k
            · have hltI : decide ((q : Int) < (k : Int)) = true := decide_eq_true (by omega)
              have hltn : decide (q < k) = true := decide_eq_true hlt
              have hltJ : (q : Int) < (k : Int) := by omega
              have hk0 : (0 : Int) ≤ (q : Int) := by omega
              have hw1 : IntKind.i64.wrap ((q : Int) + 1) = (q : Int) + 1 := by rw [IntKind.wrap_i64]; omega
              obtain ⟨p, hp⟩ : ∃ p, ps[q]? = some p := ⟨_, List.getElem?_eq_getElem (by rw [HN.out]; exact hlt)⟩
              obtain ⟨b1, o1, x1, y1, rfl, c1, I1⟩ := HPL.out wr (K69.trans kr3) q p hp
              obtain ⟨b2, o2, x2, y2, rfl, c2, I2⟩ := HPA.out wr (K69.trans kr3) q p hp
              have hbk := HBA.out wr p x1 y1 (List.mem_of_getElem? hp) I1
              have HSm : Hid (∀ W a1 c1 a2 c2, ISL W a1 p → ISL W a2 p → Calls Tryz.prog 15 #[.slice a1 p.length c1, .slice a2 p.length c2] W fun e w' => e = .returned (.bool true) ∧ Keeps (fun _ => False) W w') := fun W a1 c1 a2 c2 => HSA.out W p a1 c1 a2 c2 (List.mem_of_getElem? hp)
              obtain ⟨P, hPl⟩ : ∃ P, p.length = P := ⟨_, rfl⟩
              rw [hPl] at c1 c2 hbk HSm
              have HPl : Hid (p.length = P) := hPl
              clear hPl hp I1
              go_wp2_with (first | (go_at_call 12; refine hbk.mono ?_; clear hbk; rintro e w10 ⟨v10, rfl, ho10, k10⟩; obtain ⟨a10, c10, rfl, I10⟩ := isl_of_ownsd ho10 HPl.out; clear ho10; have d2 := k10.cell c2 (fun e => e); have J2 := I2.keep k10) | (go_at_call 15; refine (HSm.out w10 _ _ _ _ I10 J2).mono ?_; clear HSm; rintro e w11 ⟨rfl, k11⟩; have KR := (kr3.trans k10).trans k11))
              go_roundw
              case rel => exact ⟨q + 1, by go_num, by omega, KR⟩
              case measure => simp [intOf]; omega
            · have hltI : decide ((q : Int) < (k : Int)) = false := decide_eq_false (by omega)
              have hltn : decide (q < k) = false := decide_eq_false hlt
              have hap : ∃ n', n' ≤ 16 ∧ AP w6.heap.size wr g Nv n' B M := by
                by_cases h0 : 0 < Nv
                · exact ⟨n, H16.out h0, HAP9.out.keep kr3⟩
                · exact ⟨0, by omega, ⟨fun i hi => by omega, fun i hi => by omega, fun i hi => by omega, fun i hi => by omega, fun i j _ hj => by omega⟩⟩
              obtain ⟨n', hn', hap⟩ := hap
              have hpt := apart_any (cap := cv) hap Hav.out (by omega) hn'
              have K6r := K69.trans kr3
              clear hap
              go_wp2_with (first | (go_at_call 18; refine hpt.mono ?_; clear hpt; rintro e w11 ⟨rfl, k11⟩; have K611 : Keeps (fun _ => False) w6 w11 := K6r.trans' k11 (fun _ _ e => e) (fun i hi e => by have e : w6.heap.size ≤ i := e; omega)) | (go_at_call 13; refine (HNA.out w11 _ _ _ _ (Hhp.out.nr.keep K611) (Hhp.out.nk.keep K611)).mono ?_; clear HNA; rintro e w12 ⟨rfl, k12⟩; have K612 := K611.trans k12; have q7 := K612.cell Hhp.out.e7 (fun e => e); have q8 := K612.cell Hhp.out.e8 (fun e => e)))
              go_ret
              exact ⟨rfl, (K6.trans K612).below (Nat.le_refl _) (fun _ _ e => e)⟩
end Go.Proofs.YthchbcfecconbaaGreatDoor
