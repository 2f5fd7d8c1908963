import Derived.Test.YtanmpioplckgbaaDoorRnC
namespace Go.Proofs.YtanmpioplckgbaaDoor
open Go.RowKit Go.Deep Go.ChangeShapes Go.WideShapes Go.ChangeAt
set_option maxHeartbeats 2000000 in
set_option maxRecDepth 100000 in
theorem rprint_T {w : World} {a : Option Addr} {cap : Nat} {l : List Ins} (hl : ISL w a l) (hn : ∀ q ∈ l, n64 q) (hlen : l.length ≤ 9223372036854775807) :
    Calls Tryd.prog 6 #[.slice a l.length cap] w fun e w' => e = .returned (.tuple #[.string ⟨(prR l).toArray⟩, .int .i64 (chk l).1]) ∧ Keeps (fun _ => False) w w' := by
  have hC := rcheck_any (cap := cap) hl hlen
  unfold prR
  by_cases h0 : (chk l).1 = 0
  · obtain ⟨h64, hcan⟩ := chk_zero h0
    have hL := lb_ok l h64
    have hGI : ∀ q ∈ l, GI (l.length : Int) (lbT l) q := fun q hq => ⟨hcan q hq, hn q hq, fun hk => (lb_to hq hk (hcan q hq)).1⟩
    have hpl := prn_len hL hGI
    have ht0 : ∀ x ∈ tgs l, 0 ≤ x := fun x hx => by
      unfold tgs at hx
      obtain ⟨q, hq, rfl⟩ := List.mem_map.1 hx
      obtain ⟨h1, h2⟩ := List.mem_filter.1 hq
      exact (lb_to h1 h2 (hcan q h1)).2.1
    have HPL : Hid (∀ p, p ≤ l.length + 1 → (prnK l (lbT l) p).length ≤ 4100) := fun p hp => by have := hpl p; omega
    have HLB : Hid (∀ p, lbT l p = if tgt l p = true then 108 :: Lib.itoa (cnt l p : Int) else []) := fun p => lb_cnt ht0
    have HTg : Hid (∀ W, Keeps (fun _ => False) w W → ∀ p : Nat, Calls Tryd.prog 16 #[.slice a l.length cap, .int .i64 (p : Int)] W fun e w' => e = .returned (.bool (tgt l p)) ∧ Keeps (fun _ => False) W w') := fun W k p => rtarget_T h64 (hl.keep k) p
    have HLb : Hid (∀ W, Keeps (fun _ => False) w W → ∀ p : Nat, p ≤ 64 → Calls Tryd.prog 17 #[.slice a l.length cap, .int .i64 (p : Int)] W fun e w' => ∃ T : ByteArray, e = .returned (.string T) ∧ Hid (T = ⟨(108 :: Lib.itoa (cnt l p : Int)).toArray⟩) ∧ T.size ≤ 21 ∧ Keeps (fun _ => False) W w') := fun W k p hp => rlabel_T h64 (hl.keep k) p hp
    have HIn : Hid (∀ W p, p < l.length → Keeps (fun _ => False) w W → Calls Tryd.prog 18 #[.slice a l.length cap, .agg (l.getD p ins0).cells.toArray] W fun e w' => ∃ T : ByteArray, e = .returned (.string T) ∧ Hid (T = ⟨(lineT (l.getD p ins0) (lbT l)).toArray⟩) ∧ T.size ≤ 100 ∧ Keeps (fun _ => False) W w') := fun W p hp k => by
      have hm : l.getD p ins0 ∈ l := by rw [List.getD_eq_getElem?_getD, List.getElem?_eq_getElem hp]; exact List.getElem_mem hp
      obtain ⟨c, e1, e2, e3⟩ := (hGI _ hm).c
      refine rinstr_T h64 (hl.keep k) _ e1 e2 e3 (hn _ hm) (fun hk => ?_)
      have := HLB.out (l.getD p ins0).to.toNat
      by_cases g : tgt l (l.getD p ins0).to.toNat = true
      · rw [this, if_pos g]
      · rw [if_neg g] at this
        exact absurd this (lb_to hm hk (hcan _ hm)).1
    have HRun : Hid (∀ W p, p < l.length → Keeps (fun _ => False) w W → ∃ b off, a = some ⟨b, off, none⟩ ∧ (loadVar 42 ⟨b, off + p * 11, none⟩).run Tryd.prog W = .ok (.agg (l.getD p ins0).cells.toArray) W) := fun W p hp k => by
      obtain ⟨b, off, e, hc⟩ := hl p hp
      exact ⟨b, off, e, run_insAt (t := 42) (fun j v hv => k.cell (hc j v hv) (fun e => e)) ⟨_, Tryd.underlying42⟩ iRn⟩
    have HPr : Hid (prn l = prnK l (lbT l) (l.length + 1)) := rfl
    rw [if_pos h0, h0]
    rw [h0] at hC
    clear hL hGI hpl hcan hn hl h0 hlen ht0
    generalize (chk l).2 = ci at *
    generalize lbT l = lb at *
    generalize hN : l.length = N at *
    generalize hPn : prn l = PR at *
    clear hPn
    go_enter Tryd.func6, Tryd.ntmps6
    go_wp2_with (go_at_call 15; refine hC.mono ?_; clear hC; rintro e w1 ⟨rfl, k1⟩)
    go_loopw [6, 7] (fun sv iv Wr => ∃ (p : Nat) (T : ByteArray), sv = .string T ∧ iv = .int .i64 (p : Int) ∧ p ≤ N + 1 ∧ Hid (T = ⟨(prnK l lb p).toArray⟩) ∧ T.size ≤ 4100 ∧ Keeps (fun _ => False) w Wr) (fun _ iv _ => N + 1 - (intOf iv).toNat)
    case atStart => exact ⟨0, ⟨#[]⟩, rfl, rfl, Nat.zero_le _, rfl, by decide, k1⟩
    case round =>
      obtain ⟨p, T, rfl, rfl, hp, hT, hTs, kr⟩ := hrel
      by_cases hlt : p < N + 1
      · have hltI : decide ((p : Int) ≤ (N : Int)) = true := by simp; omega
        have hltN : decide (p ≤ N) = true := by simp; omega
        have HS : Hid (_ = _) := prnK_succ l lb p
        have HX : Hid ((prnK l lb (p + 1)).length ≤ 4100) := HPL.out (p + 1) (by omega)
        have HPc : Hid (pcT l lb p = (if lb p = [] then [] else lb p ++ [58, 10]) ++ (if p < N then lineT (l.getD p ins0) lb ++ [10] else [])) := by show _ = _; unfold pcT; rw [hN]
        have HLp : Hid (_ = _) := HLB.out p
        have hp64 : p ≤ 64 := by omega
        have hTg := HTg.out wr kr p
        have HLb1 : Hid (∀ W, Keeps (fun _ => False) w W → Calls Tryd.prog 17 #[.slice a N cap, .int .i64 (p : Int)] W fun e w' => ∃ T : ByteArray, e = .returned (.string T) ∧ Hid (T = ⟨(108 :: Lib.itoa (cnt l p : Int)).toArray⟩) ∧ T.size ≤ 21 ∧ Keeps (fun _ => False) W w') := fun W k => HLb.out W k p hp64
        have HIn1 : Hid (∀ W, p < N → Keeps (fun _ => False) w W → Calls Tryd.prog 18 #[.slice a N cap, .agg (l.getD p ins0).cells.toArray] W fun e w' => ∃ T : ByteArray, e = .returned (.string T) ∧ Hid (T = ⟨(lineT (l.getD p ins0) lb).toArray⟩) ∧ T.size ≤ 100 ∧ Keeps (fun _ => False) W w') := fun W h k => HIn.out W p h k
        have HRun1 : Hid (∀ W, p < N → Keeps (fun _ => False) w W → ∃ b off, a = some ⟨b, off, none⟩ ∧ (loadVar 42 ⟨b, off + p * 11, none⟩).run Tryd.prog W = .ok (.agg (l.getD p ins0).cells.toArray) W) := fun W h k => HRun.out W p h k
        have SZ : Hid (∀ T' : ByteArray, T' = ⟨(prnK l lb (p + 1)).toArray⟩ → T'.size ≤ 4100) := fun T' e => by rw [e]; show (prnK l lb (p + 1)).toArray.size ≤ 4100; rw [List.size_toArray]; exact HX.out
        clear HTg HLb HIn HRun HPL HLB
        generalize hq : l.getD p ins0 = q at *
        clear hq
        generalize hll : lineT q lb = LN at *
        clear hll
        generalize hX0 : prnK l lb p = X0 at *
        clear hX0
        cases htg : tgt l p with
        | true =>
          rw [htg] at hTg
          have hlp : lb p = 108 :: Lib.itoa (cnt l p : Int) := by rw [HLp.out, if_pos htg]
          by_cases hpn : p < N
          · have hpI : decide ((p : Int) < (N : Int)) = true := by simp; omega
            have hpJ : (p : Int) < (N : Int) := by omega
            have Hpn : Hid (p < N) := hpn
            have HE : Hid (prnK l lb (p + 1) = X0 ++ (((108 :: Lib.itoa (cnt l p : Int)) ++ [58, 10]) ++ (LN ++ [10]))) := by show _ = _; rw [HS.out, HPc.out, hlp, if_neg (by simp), if_pos hpn]
            clear hlp HLp HPc HS htg
            go_wp2_with (first | (go_at_call 16; refine hTg.mono ?_; clear hTg; rintro e w2 ⟨rfl, k2⟩) | (go_at_call 17; refine (HLb1.out _ (kr.trans k2)).mono ?_; clear HLb1; rintro e w3 ⟨S, rfl, hS, hSs, k3⟩; have K3 := (kr.trans k2).trans k3; obtain ⟨ab, off, rfl, hR1⟩ := HRun1.out w3 Hpn.out K3; clear HRun1) | (refine wpList_load_run rfl 42 _ rfl ⟨ab, off + p * 11, none⟩ rfl _ hR1 ?_; clear hR1) | (go_at_call 18; refine (HIn1.out _ Hpn.out K3).mono ?_; clear HIn1; rintro e w4 ⟨S2, rfl, hS2, hSs2, k4⟩))
            go_roundw
            case rel =>
              have hEq : ((T ++ S ++ ⟨#[58, 10]⟩) ++ S2 ++ ⟨#[10]⟩ : ByteArray) = ⟨(prnK l lb (p + 1)).toArray⟩ := by rw [HE.out, hT.out, hS.out, hS2.out]; apply ba_ext; simp [ByteArray.data_append]
              exact ⟨p + 1, _, rfl, by go_num, by omega, (by first | exact hEq | (show _ = _; simpa using hEq)), SZ.out _ (by first | exact hEq | simpa using hEq), K3.trans k4⟩
            case measure => simp [intOf]; omega
          · have hpI : decide ((p : Int) < (N : Int)) = false := by simp; omega
            have HE : Hid (prnK l lb (p + 1) = X0 ++ ((108 :: Lib.itoa (cnt l p : Int)) ++ [58, 10])) := by show _ = _; rw [HS.out, HPc.out, hlp, if_neg (by simp), if_neg hpn, List.append_nil]
            clear hlp HLp HPc HS htg HIn1 HRun1
            go_wp2_with (first | (go_at_call 16; refine hTg.mono ?_; clear hTg; rintro e w2 ⟨rfl, k2⟩) | (go_at_call 17; refine (HLb1.out _ (kr.trans k2)).mono ?_; clear HLb1; rintro e w3 ⟨S, rfl, hS, hSs, k3⟩; have K3 := (kr.trans k2).trans k3))
            go_roundw
            case rel =>
              have hEq : (T ++ S ++ ⟨#[58, 10]⟩ : ByteArray) = ⟨(prnK l lb (p + 1)).toArray⟩ := by rw [HE.out, hT.out, hS.out]; apply ba_ext; simp [ByteArray.data_append]
              exact ⟨p + 1, _, rfl, by go_num, by omega, (by first | exact hEq | (show _ = _; simpa using hEq)), SZ.out _ (by first | exact hEq | simpa using hEq), K3⟩
            case measure => simp [intOf]; omega
        | false =>
          rw [htg] at hTg
          have hlp : lb p = [] := by rw [HLp.out, if_neg (by rw [htg]; decide)]
          by_cases hpn : p < N
          · have hpI : decide ((p : Int) < (N : Int)) = true := by simp; omega
            have hpJ : (p : Int) < (N : Int) := by omega
            have Hpn : Hid (p < N) := hpn
            have HE : Hid (prnK l lb (p + 1) = X0 ++ (LN ++ [10])) := by show _ = _; rw [HS.out, HPc.out, if_pos hlp, if_pos hpn]; rfl
            clear hlp HLp HPc HS htg HLb1
            go_wp2_with (first | (go_at_call 16; refine hTg.mono ?_; clear hTg; rintro e w2 ⟨rfl, k2⟩; have K3 := kr.trans k2; obtain ⟨ab, off, rfl, hR1⟩ := HRun1.out w2 Hpn.out K3; clear HRun1) | (refine wpList_load_run rfl 42 _ rfl ⟨ab, off + p * 11, none⟩ rfl _ hR1 ?_; clear hR1) | (go_at_call 18; refine (HIn1.out _ Hpn.out K3).mono ?_; clear HIn1; rintro e w4 ⟨S2, rfl, hS2, hSs2, k4⟩))
            go_roundw
            case rel =>
              have hEq : (T ++ S2 ++ ⟨#[10]⟩ : ByteArray) = ⟨(prnK l lb (p + 1)).toArray⟩ := by rw [HE.out, hT.out, hS2.out]; apply ba_ext; simp [ByteArray.data_append]
              exact ⟨p + 1, _, rfl, by go_num, by omega, (by first | exact hEq | (show _ = _; simpa using hEq)), SZ.out _ (by first | exact hEq | simpa using hEq), K3.trans k4⟩
            case measure => simp [intOf]; omega
          · have hpI : decide ((p : Int) < (N : Int)) = false := by simp; omega
            have HE : Hid (prnK l lb (p + 1) = X0) := by show _ = _; rw [HS.out, HPc.out, if_pos hlp, if_neg hpn]; simp
            clear hlp HLp HPc HS htg HLb1 HIn1 HRun1
            go_wp2_with (go_at_call 16; refine hTg.mono ?_; clear hTg; rintro e w2 ⟨rfl, k2⟩)
            go_roundw
            case rel => exact ⟨p + 1, T, rfl, by go_num, by omega, (by show _ = _; rw [HE.out]; exact hT.out), hTs, kr.trans k2⟩
            case measure => simp [intOf]; omega
      · obtain rfl : p = N + 1 := by omega
        have hltI : decide (((N : Int) + 1) ≤ (N : Int)) = false := by simp; omega
        have hltN : decide (N + 1 ≤ N) = false := by simp
        go_wp2_with fail
        go_ret2
        exact ⟨by simp [HPr.out, hT.out], kr⟩
  · have hch : (chk l).1 = 106 ∨ (chk l).1 = 108 := by
      rcases chk_two l with e | e
      · exact absurd e h0
      · exact e
    rw [if_neg h0]
    generalize (chk l).1 = ce at *
    generalize (chk l).2 = ci at *
    have b0 : (ce != 0) = true := by rcases hch with e | e <;> rw [e] <;> rfl
    clear hch h0
    go_enter Tryd.func6, Tryd.ntmps6
    go_wp2_with (go_at_call 15; refine hC.mono ?_; clear hC; rintro e w1 ⟨rfl, k1⟩)
    go_ret2
    exact ⟨rfl, k1⟩
end Go.Proofs.YtanmpioplckgbaaDoor
