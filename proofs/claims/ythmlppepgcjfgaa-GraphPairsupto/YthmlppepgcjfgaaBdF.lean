import Derived.Test.YthmlppepgcjfgaaBdE
namespace Go.Proofs.Ythmlppepgcjfgaa
open Go.RowKit Go.Deep
attribute [local go_sem] Oper.semAt_some run_store_nf run_store_f
set_option maxHeartbeats 6000000 in
set_option maxRecDepth 100000 in
theorem rBuild_ok {w : World} {a : Option Addr} {cap : Nat} {ts : List Tv} {p : Nat → Lp} (hT : TXM w a ts p) (hN4 : ts.length ≤ 4096) (hS : wsum ts ts.length ≤ 1048576) (hls : ∀ i, i < ts.length → (ts.getD i tv0).saws.length ≤ 1048576) (hMay : MayT ts) : Calls Try.prog 8 #[.slice a ts.length cap] w (BuP ts w) := by
  have hmy : Calls Try.prog 13 #[.slice a ts.length cap] w fun e w' => e = .returned (.int .i64 0) ∧ Keeps (fun _ => False) w w' := by
    refine (may_any hT (by omega)).mono ?_
    rintro e w' ⟨ec, rfl, h, k⟩
    rcases h with ⟨-, rfl⟩ | ⟨h, -⟩
    · exact ⟨rfl, k⟩
    · exact absurd hMay h
  have HEND : Hid (∀ W l la ln lc, OE w.heap.size W (.slice la ln lc) ln l → SrtE l → (∀ e, e ∈ l ↔ Done ts ts.length 0 0 e) → Keeps (fun _ => False) w W → BuP ts w (.returned (.tuple #[.slice la ln lc, .int .i64 0])) W) := fun W l la ln lc h1 h2 h3 h4 => by
    have hn := h1.n
    subst hn
    exact ⟨la, lc, l, 0, rfl, h1.o, .inr ⟨hMay, rfl, h2, fun e => (h3 e).trans (Done.all e)⟩, h4⟩
  have HT : Hid (TXM w a ts p) := hT
  have HLS : Hid (∀ i, i < ts.length → (ts.getD i tv0).saws.length ≤ 1048576 ∧ (ts.getD i tv0).wrs.length ≤ 1048576) := fun i hi => ⟨hls i hi, by
    have := wsum_le ts (u := i + 1) (v := ts.length) hi
    have e : wsum ts (i + 1) = wsum ts i + (ts.getD i tv0).wrs.length := rfl
    omega⟩
  clear hT hls
  generalize hN : ts.length = N at *
  have HN : Hid (ts.length = N) := hN
  have HS : Hid (wsum ts N ≤ 1048576) := hS
  have HB0 : Hid (∀ W, Keeps (fun _ => False) w W → w.heap.size ≤ W.heap.size) := fun W k => k.size
  clear hN hS
  go_enter Try.func8, Try.ntmps8
  go_wp2_with (go_at_call 13; refine hmy.mono ?_; clear hmy; rintro e w1 ⟨rfl, k1⟩)
  have HK1 : Hid (Keeps (fun _ => False) w w1) := k1
  clear k1
  go_loopg [5, 6] N (fun gh lv tv Wr => ∃ (t : Nat) (l : List Ed) (la : Option Addr) (ln lc : Nat), gh + t = N ∧ lv = .slice la ln lc ∧ tv = .int .i64 (t : Int) ∧ t ≤ N ∧ OE w.heap.size Wr (.slice la ln lc) ln l ∧ SrtE l ∧ (∀ e, e ∈ l ↔ Done ts t 0 0 e) ∧ ln ≤ 2097152 * t ∧ Keeps (fun _ => False) w Wr)
  case atStart => exact ⟨0, [], none, 0, 0, rfl, rfl, rfl, Nat.zero_le _, ⟨World.ownsRow_nil _ _ _ _, rfl⟩, List.Pairwise.nil, (fun e => ⟨(fun h => by cases h), fun h => absurd h (Done.start ts e)⟩), Nat.zero_le _, HK1.out⟩
  case round =>
    obtain ⟨t, l, la, ln, lc, hgt, rfl, rfl, htN, hoe, hsr, hme, hln, kr⟩ := hrel
    clear HK1
    have HOE : Hid (OE w.heap.size wr (.slice la ln lc) ln l) := hoe
    have HKR : Hid (Keeps (fun _ => False) w wr) := kr
    have HSM : Hid (SrtE l ∧ ∀ e, e ∈ l ↔ Done ts t 0 0 e) := ⟨hsr, hme⟩
    clear hoe hsr hme kr
    by_cases hlt : t < N
    · have j1 : decide ((t : Int) < (N : Int)) = true := decide_eq_true (by omega)
      have j2 : decide (t < N) = true := decide_eq_true hlt
      have j3 : (t : Int) < (N : Int) := by omega
      have j4 : (0 : Int) ≤ (t : Int) := by omega
      have hwt : IntKind.i64.wrap ((t : Int) + 1) = (t : Int) + 1 := by rw [IntKind.wrap_i64]; omega
      obtain ⟨⟨b, off, rfl, hct⟩, hsT, hwT⟩ := HT.out t (by rw [HN.out]; exact hlt)
      obtain ⟨T, hTT⟩ : ∃ T, T = ts.getD t tv0 := ⟨_, rfl⟩
      rw [← hTT] at hct hsT hwT
      have hlT := HLS.out t hlt
      rw [← hTT] at hlT
      have HRL : Hid (∀ W, Keeps (fun _ => False) w W → (loadVar 32 ⟨b, off + t * 11, none⟩).run Try.prog W = .ok (.agg (T.clp (p t)).toArray) W) := fun W k => run_txAt (fun j v e => k.cell (hct j v e) (fun e => e))
      have HET : Hid (∀ W, Keeps (fun _ => False) w W → W.cell? ⟨b, off + t * 11 + 7, none⟩ = some (.int .i64 T.end_)) := fun W k => k.cell (hct 7 _ rfl) (fun e => e)
      have HFT : Hid (∀ W, Keeps (fun _ => False) w W → W.cell? ⟨b, off + t * 11 + 6, none⟩ = some (.int .i64 T.fnl)) := fun W k => k.cell (hct 6 _ rfl) (fun e => e)
      have HOT : Hid (∀ W, Keeps (fun _ => False) w W → W.cell? ⟨b, off + t * 11 + 8, none⟩ = some (.int .i64 T.out)) := fun W k => k.cell (hct 8 _ rfl) (fun e => e)
      have HWR : Hid (∀ W, Keeps (fun _ => False) w W → ∀ x, Calls Try.prog 14 #[.agg (T.clp (p t)).toArray, .int .i64 x] W fun e w' => e = .returned (.bool (wrB T x)) ∧ Keeps (fun _ => False) W w') := fun W k x => writes_any (hwT.keep k) (by omega) x
      have HRD0 : Hid (∀ W, Keeps (fun _ => False) w W → ∀ x, Calls Try.prog 16 #[.agg (T.clp (p t)).toArray, .int .i64 x] W fun e w' => e = .returned (.bool (rdB T x)) ∧ Keeps (fun _ => False) W w') := fun W k x => reads_any (hsT.keep k) (by omega) x
      obtain ⟨et, het⟩ : ∃ et, et = T.end_ := ⟨_, rfl⟩
      obtain ⟨ft, hft⟩ : ∃ ft, ft = T.fnl := ⟨_, rfl⟩
      obtain ⟨ot, hot⟩ : ∃ ot, ot = T.out := ⟨_, rfl⟩
      rw [← het] at HET
      rw [← hft] at HFT
      rw [← hot] at HOT
      have HTT : Hid (T = ts.getD t tv0) := hTT
      have HEE0 : Hid (et = (ts.getD t tv0).end_ ∧ ft = (ts.getD t tv0).fnl) := ⟨by rw [het, hTT], by rw [hft, hTT]⟩
      have HOTE : Hid (ot = (ts.getD t tv0).out) := by show ot = (ts.getD t tv0).out; rw [hot, hTT]
      have hbt : ln ≤ 2097152 * t := hln
      clear hct hsT hwT hTT het hft hot hlT hln
      obtain ⟨G, hG⟩ : ∃ G, G = gk := ⟨_, rfl⟩
      subst hG
      go_wp2_with fail
      go_loopg [5, 7] N (fun gh lv uv Wx => ∃ (u : Nat) (l : List Ed) (la : Option Addr) (ln lc : Nat), gh + u = N ∧ lv = .slice la ln lc ∧ uv = .int .i64 (u : Int) ∧ u ≤ N ∧ OE w.heap.size Wx (.slice la ln lc) ln l ∧ SrtE l ∧ (∀ e, e ∈ l ↔ Done ts t u 0 e) ∧ ln ≤ 2097152 * t + 2 * wsum ts u ∧ Keeps (fun _ => False) w Wx)
      case atStart => exact ⟨0, l, la, ln, lc, rfl, rfl, rfl, Nat.zero_le _, HOE.out, HSM.out.1, HSM.out.2, by show ln ≤ 2097152 * t + 2 * 0; omega, HKR.out⟩
      case round =>
        obtain ⟨u, l, la, ln, lc, hgu, rfl, rfl, huN, hoe, hsr, hme, hln, kx⟩ := hrel
        clear HOE HSM HKR
        have HOE : Hid (OE w.heap.size wr (.slice la ln lc) ln l) := hoe
        have HKR : Hid (Keeps (fun _ => False) w wr) := kx
        have HSM : Hid (SrtE l ∧ ∀ e, e ∈ l ↔ Done ts t u 0 e) := ⟨hsr, hme⟩
        clear hoe hsr hme kx
        by_cases hlu : u < N
        · have q1 : decide ((u : Int) < (N : Int)) = true := decide_eq_true (by omega)
          have q2 : decide (u < N) = true := decide_eq_true hlu
          have q3 : (u : Int) < (N : Int) := by omega
          have q4 : (0 : Int) ≤ (u : Int) := by omega
          have hwu : IntKind.i64.wrap ((u : Int) + 1) = (u : Int) + 1 := by rw [IntKind.wrap_i64]; omega
          have HU : Hid (∀ W, Keeps (fun _ => False) w W → (∀ j v, ((ts.getD u tv0).clp (p u))[j]? = some v → W.cell? ⟨b, off + u * 11 + j, none⟩ = some v) ∧ WOM W (p u).wa (ts.getD u tv0).wrs) := fun W k => by
            obtain ⟨⟨b', off', e, hc'⟩, -, h3⟩ := HT.out u (by rw [HN.out]; exact hlu)
            injection e with e
            injection e with e1 e2 _
            subst e1 e2
            exact ⟨fun j v hv => k.cell (hc' j v hv) (fun e => e), h3.keep k⟩
          have c8u := (HU.out wr HKR.out).1 8 _ rfl
          have c8u' : wr.cell? ⟨b, off + u * 11 + 8, none⟩ = some (.int .i64 (ts.getD u tv0).out) := c8u
          have c8t := HOT.out wr HKR.out
          have HTWO : Hid (Two ts t u ↔ (t ≠ u ∧ ot = 1 ∧ (ts.getD u tv0).out = 1)) := by unfold Two; rw [← HOTE.out]; exact Iff.rfl
          clear c8u
          generalize (ts.getD u tv0).out = ou at *
          by_cases g1 : t = u
          · have s1 : ((t : Int) == (u : Int)) = true := by simp [g1]
            have s2 : (t == u) = true := by simp [g1]
            have HNT : Hid (¬ Two ts t u) := fun q => (HTWO.out.1 q).1 g1
            clear g1 HTWO HU
            have HMU : Hid (∀ e, e ∈ l ↔ Done ts t (u + 1) 0 e) := fun e => by rw [HSM.out.2 e, Done.skipU HNT.out e]
            have HLN : Hid (ln ≤ 2097152 * t + 2 * wsum ts (u + 1)) := by
              show ln ≤ 2097152 * t + 2 * (wsum ts u + (ts.getD u tv0).wrs.length)
              omega
            have HSR : Hid (SrtE l) := HSM.out.1
            clear HSM hln
            go_wp2_with fail
            go_roundg (gk - 1)
            case measure => omega
            case rel => exact ⟨u + 1, l, la, ln, lc, by omega, rfl, by go_num, by omega, HOE.out, HSR.out, HMU.out, HLN.out, HKR.out⟩
          have s1 : ((t : Int) == (u : Int)) = false := beq_eq_false_iff_ne.2 (by omega)
          have s2 : (t == u) = false := beq_eq_false_iff_ne.2 g1
          by_cases g2 : ot = 1
          · have s3 : (ot != 1) = false := by simp [g2]
            by_cases g3 : ou = 1
            · have s4 : (ou != 1) = false := by simp [g3]
              have H2 : Hid (Two ts t u) := HTWO.out.2 ⟨g1, g2, g3⟩
              have HEU : Hid (∀ W, Keeps (fun _ => False) w W → W.cell? ⟨b, off + u * 11 + 7, none⟩ = some (.int .i64 (ts.getD u tv0).end_)) := fun W k => (HU.out W k).1 7 _ rfl
              have HCW : Hid (∀ W, Keeps (fun _ => False) w W → W.cell? ⟨b, off + u * 11 + 10, none⟩ = some (.slice (p u).wa (ts.getD u tv0).wrs.length (p u).wc)) := fun W k => (HU.out W k).1 10 _ rfl
              have HWM : Hid (∀ W, Keeps (fun _ => False) w W → ∀ i, i < (ts.getD u tv0).wrs.length → ∃ wb wo, (p u).wa = some ⟨wb, wo, none⟩ ∧ W.cell? ⟨wb, wo + i * 4, none⟩ = some (.int .i64 ((ts.getD u tv0).wrs.getD i wo0).object)) := fun W k i hi => by
                obtain ⟨wb, wo, e, hc⟩ := (HU.out W k).2 i hi
                exact ⟨wb, wo, e, by have h := hc 0 _ rfl; rw [Nat.add_zero] at h; exact h⟩
              have HDS : Hid (∀ i, i < (ts.getD u tv0).wrs.length → ∀ e, Done ts t u (i + 1) e ↔ (Done ts t u i e ∨ EdT ts t u ((ts.getD u tv0).wrs.getD i wo0).object e)) := fun i hi e => Done.step (by rw [HN.out]; exact hlu) H2.out hi e
              have hsu : wsum ts u + (ts.getD u tv0).wrs.length ≤ 1048576 := by
                have := wsum_le ts (u := u + 1) (v := N) hlu
                have e : wsum ts (u + 1) = wsum ts u + (ts.getD u tv0).wrs.length := rfl
                have := HS.out
                omega
              generalize hM : (ts.getD u tv0).wrs.length = M at *
              have HM : Hid ((ts.getD u tv0).wrs.length = M) := hM
              clear hM
              generalize hWU : wsum ts u = wu at *
              have HWU : Hid (wsum ts u = wu) := hWU
              clear hWU
              obtain ⟨eu, heu⟩ : ∃ eu, eu = (ts.getD u tv0).end_ := ⟨_, rfl⟩
              have HEE : Hid (eu = (ts.getD u tv0).end_ ∧ et = (ts.getD t tv0).end_ ∧ ft = (ts.getD t tv0).fnl) := ⟨heu, HEE0.out.1, HEE0.out.2⟩
              rw [← heu] at HEU
              generalize (p u).wa = wa at *
              generalize (p u).wc = wc at *
              have hbd : ln ≤ 2097152 * t + 2 * wu := hln
              clear g1 g2 g3 HTWO HU heu hln
              go_wp2_with fail
              clear c8u' c8t
              go_loopw [5, 8] (fun lv iv Wx => ∃ (i : Nat) (l : List Ed) (la : Option Addr) (ln lc : Nat), lv = .slice la ln lc ∧ iv = .int .i64 (i : Int) ∧ i ≤ M ∧ OE w.heap.size Wx (.slice la ln lc) ln l ∧ SrtE l ∧ (∀ e, e ∈ l ↔ Done ts t u i e) ∧ ln ≤ 2097152 * t + 2 * wu + 2 * i ∧ Keeps (fun _ => False) w Wx) (fun _ iv _ => M - (intOf iv).toNat)
              case atStart => exact ⟨0, l, la, ln, lc, rfl, rfl, Nat.zero_le _, HOE.out, HSM.out.1, HSM.out.2, by omega, HKR.out⟩
              case round =>
                obtain ⟨i, l, la, ln, lc, rfl, rfl, hiM, hoe, hsr, hme, hln, kx⟩ := hrel
                clear HOE HSM HKR
                have HOE : Hid (OE w.heap.size wr (.slice la ln lc) ln l) := hoe
                have HKR : Hid (Keeps (fun _ => False) w wr) := kx
                have HSM : Hid (SrtE l ∧ ∀ e, e ∈ l ↔ Done ts t u i e) := ⟨hsr, hme⟩
                clear hoe hsr hme kx
                have cw := HCW.out wr HKR.out
                by_cases hli : i < M
                · have o1 : decide ((i : Int) < (M : Int)) = true := decide_eq_true (by omega)
                  have o2 : decide (i < M) = true := decide_eq_true hli
                  have o3 : (i : Int) < (M : Int) := by omega
                  have o4 : (0 : Int) ≤ (i : Int) := by omega
                  have hwi : IntKind.i64.wrap ((i : Int) + 1) = (i : Int) + 1 := by rw [IntKind.wrap_i64]; omega
                  obtain ⟨wb2, wo2, hwe, hwc⟩ := HWM.out wr HKR.out i hli
                  subst hwe
                  have HSTEP1 : Hid (∀ l', l' = addX (wrB T ((ts.getD u tv0).wrs.getD i wo0).object) (rdB T ((ts.getD u tv0).wrs.getD i wo0).object) eu et ft u t ((ts.getD u tv0).wrs.getD i wo0).object l → SrtE l' ∧ ∀ e, e ∈ l' ↔ Done ts t u (i + 1) e) := fun l' h => by
                    rw [h]
                    refine ⟨addX_srt HSM.out.1, fun e => ?_⟩
                    rw [HDS.out i hli e, ← HSM.out.2 e]
                    have q := addX_mem (ts := ts) (t := t) (u := u) (x := ((ts.getD u tv0).wrs.getD i wo0).object) (l := l) (e := e)
                    rw [← HEE.out.1, ← HEE.out.2.1, ← HEE.out.2.2, ← HTT.out] at q
                    exact q
                  have HWR1 := fun W k => HWR.out W k ((ts.getD u tv0).wrs.getD i wo0).object
                  have HRD1 := fun W k => HRD0.out W k ((ts.getD u tv0).wrs.getD i wo0).object
                  generalize ((ts.getD u tv0).wrs.getD i wo0).object = x at *
                  obtain ⟨wb, hwb⟩ : ∃ wb, wb = wrB T x := ⟨_, rfl⟩
                  obtain ⟨rb, hrb⟩ : ∃ rb, rb = rdB T x := ⟨_, rfl⟩
                  have HSTEP : Hid (∀ l', l' = addX wb rb eu et ft u t x l → SrtE l' ∧ ∀ e, e ∈ l' ↔ Done ts t u (i + 1) e) := by rw [hwb, hrb]; exact HSTEP1.out
                  have HRD : Hid (∀ W, Keeps (fun _ => False) w W → Calls Try.prog 16 #[.agg (T.clp (p t)).toArray, .int .i64 x] W fun e w' => e = .returned (.bool rb) ∧ Keeps (fun _ => False) W w') := by rw [hrb]; exact HRD1
                  have hwr : ∀ q : KS wr, Calls Try.prog 14 #[.agg (T.clp (p t)).toArray, .int .i64 x] q.1 fun e w' => e = .returned (.bool wb) ∧ Keeps (fun _ => False) q.1 w' := fun q => by rw [hwb]; exact HWR1 q.1 (HKR.out.trans q.2)
                  have HRT : Hid (∀ W', (∃ u : KS wr, W' = u.1) → (loadVar 32 ⟨b, off + t * 11, none⟩).run Try.prog W' = .ok (.agg (T.clp (p t)).toArray) W') := fun W' hq => by
                    obtain ⟨q, rfl⟩ := hq
                    exact HRL.out q.1 (HKR.out.trans q.2)
                  have E1 := ks_cell (HEU.out wr HKR.out)
                  have E2 := ks_cell (HET.out wr HKR.out)
                  have hNE : Nonempty (KS wr) := ⟨⟨wr, Keeps.refl _ wr⟩⟩
                  clear HSTEP1 HWR1 HRD1 hwb hrb HSM
                  cases wb
                  · have hz : True := trivial
                    clear hz
                    cases rb
                    · have hz : True := trivial
                      clear hz
                      have hqw : addW false eu et u t x l = l := by unfold addW; rw [if_neg (fun q => by cases q.1)]
                      have HSX := HSTEP.out (l) (by unfold addX; rw [if_neg (by decide), hqw])
                      have HSX2 : Hid (SrtE (l) ∧ ∀ e, e ∈ l ↔ Done ts t u (i + 1) e) := HSX
                      clear hqw HSX HSTEP
                      go_wp2_with fail
                      refine wp_region_ks (by kernel_rfl) (by kernel_rfl) ?_
                      (repeat (first | go_big_quiet_skip | (refine wpQuiet_load (by kernel_rfl) 32 _ rfl ⟨b, off + t * 11, none⟩ rfl _ HRT.out ?_; clear HRT; (try simp only [Act.put, List.setIfInBounds_toArray, List.set_cons_zero, List.set_cons_succ])) | go_big_quiet_step ((go_at_call 14; refine (hwr _).mono ?_; rintro e w9 ⟨rfl, k9⟩; exact ⟨rfl, ⟨_, (KS.property _).trans k9⟩, rfl⟩))))
                      refine wpQuiet_nil ?_
                      rintro _ ⟨uy, rfl⟩
                      have kuy := uy.property
                      clear E1 E2 hNE hwr
                      generalize uy.val = w2 at *
                      have K2 : Hid (Keeps (fun _ => False) w w2) := HKR.out.trans kuy
                      have K3 : Hid (Keeps (fun _ => False) w w2) := K2.out
                      have hoe1 := HOE.out.keep kuy
                      have hR2 := HRL.out w2 K3.out
                      have hrd := HRD.out w2 K3.out
                      go_wp2_with (first | (refine wpList_load_runL rfl 32 _ rfl ⟨b, off + t * 11, none⟩ rfl _ hR2 ?_; clear hR2) | (go_at_call 16; refine hrd.mono ?_; clear hrd; rintro e w5 ⟨rfl, k5⟩))
                      go_roundw
                      case rel => exact ⟨i + 1, l, la, ln, lc, rfl, by go_num, by omega, hoe1.keep k5, HSX2.out.1, HSX2.out.2, by omega, K3.out.trans k5⟩
                      case measure => simp [intOf]; omega
                    · by_cases hf : eu < ft
                      · have s9 : decide (eu < ft) = true := decide_eq_true hf
                        have hqw : addW false eu et u t x l = l := by unfold addW; rw [if_neg (fun q => by cases q.1)]
                        have HSX := HSTEP.out (insE (⟨(u : Int), (t : Int), 0, x⟩ : Ed) (l)) (by unfold addX; rw [if_pos rfl, if_pos hf, hqw])
                        have HSX2 : Hid (SrtE (insE (⟨(u : Int), (t : Int), 0, x⟩ : Ed) (l)) ∧ ∀ e, e ∈ insE (⟨(u : Int), (t : Int), 0, x⟩ : Ed) (l) ↔ Done ts t u (i + 1) e) := HSX
                        clear hqw HSX HSTEP hf
                        go_wp2_with fail
                        refine wp_region_ks (by kernel_rfl) (by kernel_rfl) ?_
                        (repeat (first | go_big_quiet_skip | (refine wpQuiet_load (by kernel_rfl) 32 _ rfl ⟨b, off + t * 11, none⟩ rfl _ HRT.out ?_; clear HRT; (try simp only [Act.put, List.setIfInBounds_toArray, List.set_cons_zero, List.set_cons_succ])) | go_big_quiet_step ((go_at_call 14; refine (hwr _).mono ?_; rintro e w9 ⟨rfl, k9⟩; exact ⟨rfl, ⟨_, (KS.property _).trans k9⟩, rfl⟩))))
                        refine wpQuiet_nil ?_
                        rintro _ ⟨uy, rfl⟩
                        have kuy := uy.property
                        clear E1 E2 hNE hwr
                        generalize uy.val = w2 at *
                        have K2 : Hid (Keeps (fun _ => False) w w2) := HKR.out.trans kuy
                        have K3 : Hid (Keeps (fun _ => False) w w2) := K2.out
                        have hoe1 := HOE.out.keep kuy
                        have hR2 := HRL.out w2 K3.out
                        have hrd := HRD.out w2 K3.out
                        go_wp2_with (first | (refine wpList_load_runL rfl 32 _ rfl ⟨b, off + t * 11, none⟩ rfl _ hR2 ?_; clear hR2) | (go_at_call 16; refine hrd.mono ?_; clear hrd; rintro e w5 ⟨rfl, k5⟩))
                        have K5 : Hid (Keeps (fun _ => False) w w5) := K3.out.trans k5
                        have E1 := ks_cell (HEU.out w5 K5.out)
                        have E2 := ks_cell (HFT.out w5 K5.out)
                        have hNE : Nonempty (KS w5) := ⟨⟨w5, Keeps.refl _ w5⟩⟩
                        have hoe5 := hoe1.keep k5
                        refine wp_region_ks (by kernel_rfl) (by kernel_rfl) ?_
                        (repeat (first | go_big_quiet_skip | go_big_quiet_step (fail)))
                        refine wpQuiet_nil ?_
                        rintro _ ⟨uz, rfl⟩
                        have kuz := uz.property
                        clear E1 E2 hNE
                        generalize uz.val = w6 at *
                        have K6 : Hid (Keeps (fun _ => False) w w6) := K5.out.trans kuz
                        have hpt := put_oe (hoe5.keep kuz) (HB0.out w6 K6.out) (by omega) (⟨(u : Int), (t : Int), 0, x⟩ : Ed)
                        go_wp2_with (go_at_call 15; refine hpt.mono ?_; clear hpt; rintro e w7 ⟨la2, ln2, lc2, rfl, ⟨hoe2, hln2⟩, k7⟩)
                        go_roundw
                        case rel => exact ⟨i + 1, insE (⟨(u : Int), (t : Int), 0, x⟩ : Ed) (l), la2, ln2, lc2, rfl, by go_num, by omega, hoe2, HSX2.out.1, HSX2.out.2, by omega, K6.out.trans k7⟩
                        case measure => simp [intOf]; omega
                      · have s9 : decide (eu < ft) = false := decide_eq_false hf
                        have hqw : addW false eu et u t x l = l := by unfold addW; rw [if_neg (fun q => by cases q.1)]
                        have HSX := HSTEP.out (insE (⟨(t : Int), (u : Int), 2, x⟩ : Ed) (l)) (by unfold addX; rw [if_pos rfl, if_neg hf, hqw])
                        have HSX2 : Hid (SrtE (insE (⟨(t : Int), (u : Int), 2, x⟩ : Ed) (l)) ∧ ∀ e, e ∈ insE (⟨(t : Int), (u : Int), 2, x⟩ : Ed) (l) ↔ Done ts t u (i + 1) e) := HSX
                        clear hqw HSX HSTEP hf
                        go_wp2_with fail
                        refine wp_region_ks (by kernel_rfl) (by kernel_rfl) ?_
                        (repeat (first | go_big_quiet_skip | (refine wpQuiet_load (by kernel_rfl) 32 _ rfl ⟨b, off + t * 11, none⟩ rfl _ HRT.out ?_; clear HRT; (try simp only [Act.put, List.setIfInBounds_toArray, List.set_cons_zero, List.set_cons_succ])) | go_big_quiet_step ((go_at_call 14; refine (hwr _).mono ?_; rintro e w9 ⟨rfl, k9⟩; exact ⟨rfl, ⟨_, (KS.property _).trans k9⟩, rfl⟩))))
                        refine wpQuiet_nil ?_
                        rintro _ ⟨uy, rfl⟩
                        have kuy := uy.property
                        clear E1 E2 hNE hwr
                        generalize uy.val = w2 at *
                        have K2 : Hid (Keeps (fun _ => False) w w2) := HKR.out.trans kuy
                        have K3 : Hid (Keeps (fun _ => False) w w2) := K2.out
                        have hoe1 := HOE.out.keep kuy
                        have hR2 := HRL.out w2 K3.out
                        have hrd := HRD.out w2 K3.out
                        go_wp2_with (first | (refine wpList_load_runL rfl 32 _ rfl ⟨b, off + t * 11, none⟩ rfl _ hR2 ?_; clear hR2) | (go_at_call 16; refine hrd.mono ?_; clear hrd; rintro e w5 ⟨rfl, k5⟩))
                        have K5 : Hid (Keeps (fun _ => False) w w5) := K3.out.trans k5
                        have E1 := ks_cell (HEU.out w5 K5.out)
                        have E2 := ks_cell (HFT.out w5 K5.out)
                        have hNE : Nonempty (KS w5) := ⟨⟨w5, Keeps.refl _ w5⟩⟩
                        have hoe5 := hoe1.keep k5
                        refine wp_region_ks (by kernel_rfl) (by kernel_rfl) ?_
                        (repeat (first | go_big_quiet_skip | go_big_quiet_step (fail)))
                        refine wpQuiet_nil ?_
                        rintro _ ⟨uz, rfl⟩
                        have kuz := uz.property
                        clear E1 E2 hNE
                        generalize uz.val = w6 at *
                        have K6 : Hid (Keeps (fun _ => False) w w6) := K5.out.trans kuz
                        have hpt := put_oe (hoe5.keep kuz) (HB0.out w6 K6.out) (by omega) (⟨(t : Int), (u : Int), 2, x⟩ : Ed)
                        go_wp2_with (go_at_call 15; refine hpt.mono ?_; clear hpt; rintro e w7 ⟨la2, ln2, lc2, rfl, ⟨hoe2, hln2⟩, k7⟩)
                        go_roundw
                        case rel => exact ⟨i + 1, insE (⟨(t : Int), (u : Int), 2, x⟩ : Ed) (l), la2, ln2, lc2, rfl, by go_num, by omega, hoe2, HSX2.out.1, HSX2.out.2, by omega, K6.out.trans k7⟩
                        case measure => simp [intOf]; omega
                  · by_cases hw : eu < et
                    · have s7 : decide (eu < et) = true := decide_eq_true hw
                      cases rb
                      · have hz : True := trivial
                        clear hz
                        have hqw : addW true eu et u t x l = insE (⟨(u : Int), (t : Int), 1, x⟩ : Ed) l := by unfold addW; rw [if_pos ⟨rfl, hw⟩]
                        have HSX := HSTEP.out (insE (⟨(u : Int), (t : Int), 1, x⟩ : Ed) l) (by unfold addX; rw [if_neg (by decide), hqw])
                        have HSX2 : Hid (SrtE (insE (⟨(u : Int), (t : Int), 1, x⟩ : Ed) l) ∧ ∀ e, e ∈ insE (⟨(u : Int), (t : Int), 1, x⟩ : Ed) l ↔ Done ts t u (i + 1) e) := HSX
                        clear hqw HSX HSTEP hw
                        go_wp2_with fail
                        refine wp_region_ks (by kernel_rfl) (by kernel_rfl) ?_
                        (repeat (first | go_big_quiet_skip | (refine wpQuiet_load (by kernel_rfl) 32 _ rfl ⟨b, off + t * 11, none⟩ rfl _ HRT.out ?_; clear HRT; (try simp only [Act.put, List.setIfInBounds_toArray, List.set_cons_zero, List.set_cons_succ])) | go_big_quiet_step ((go_at_call 14; refine (hwr _).mono ?_; rintro e w9 ⟨rfl, k9⟩; exact ⟨rfl, ⟨_, (KS.property _).trans k9⟩, rfl⟩))))
                        refine wpQuiet_nil ?_
                        rintro _ ⟨uy, rfl⟩
                        have kuy := uy.property
                        clear E1 E2 hNE hwr
                        generalize uy.val = w2 at *
                        have K2 : Hid (Keeps (fun _ => False) w w2) := HKR.out.trans kuy
                        have hpt := put_oe (HOE.out.keep kuy) (HB0.out w2 K2.out) (by omega) (⟨(u : Int), (t : Int), 1, x⟩ : Ed)
                        have hrd : ∀ W, Keeps (fun _ => False) w W → Calls Try.prog 16 #[.agg (T.clp (p t)).toArray, .int .i64 x] W fun e w' => e = .returned (.bool false) ∧ Keeps (fun _ => False) W w' := HRD.out
                        have HRD2 : Hid (∀ W, Keeps (fun _ => False) w W → Calls Try.prog 16 #[.agg (T.clp (p t)).toArray, .int .i64 x] W fun e w' => e = .returned (.bool false) ∧ Keeps (fun _ => False) W w') := hrd
                        clear hrd
                        go_wp2_with (first | (go_at_call 15; refine hpt.mono ?_; clear hpt; rintro e w3 ⟨la1, ln1, lc1, rfl, ⟨hoe1, hln1⟩, k3⟩; have K3 : Hid (Keeps (fun _ => False) w w3) := K2.out.trans k3; have hR2 := HRL.out w3 K3.out; have hrd := HRD2.out w3 K3.out) | (refine wpList_load_runL rfl 32 _ rfl ⟨b, off + t * 11, none⟩ rfl _ hR2 ?_; clear hR2) | (go_at_call 16; refine hrd.mono ?_; clear hrd; rintro e w5 ⟨rfl, k5⟩))
                        go_roundw
                        case rel => exact ⟨i + 1, insE (⟨(u : Int), (t : Int), 1, x⟩ : Ed) l, la1, ln1, lc1, rfl, by go_num, by omega, hoe1.keep k5, HSX2.out.1, HSX2.out.2, by omega, K3.out.trans k5⟩
                        case measure => simp [intOf]; omega
                      · by_cases hf : eu < ft
                        · have s9 : decide (eu < ft) = true := decide_eq_true hf
                          have hqw : addW true eu et u t x l = insE (⟨(u : Int), (t : Int), 1, x⟩ : Ed) l := by unfold addW; rw [if_pos ⟨rfl, hw⟩]
                          have HSX := HSTEP.out (insE (⟨(u : Int), (t : Int), 0, x⟩ : Ed) (insE (⟨(u : Int), (t : Int), 1, x⟩ : Ed) l)) (by unfold addX; rw [if_pos rfl, if_pos hf, hqw])
                          have HSX2 : Hid (SrtE (insE (⟨(u : Int), (t : Int), 0, x⟩ : Ed) (insE (⟨(u : Int), (t : Int), 1, x⟩ : Ed) l)) ∧ ∀ e, e ∈ insE (⟨(u : Int), (t : Int), 0, x⟩ : Ed) (insE (⟨(u : Int), (t : Int), 1, x⟩ : Ed) l) ↔ Done ts t u (i + 1) e) := HSX
                          clear hqw HSX HSTEP hw hf
                          go_wp2_with fail
                          refine wp_region_ks (by kernel_rfl) (by kernel_rfl) ?_
                          (repeat (first | go_big_quiet_skip | (refine wpQuiet_load (by kernel_rfl) 32 _ rfl ⟨b, off + t * 11, none⟩ rfl _ HRT.out ?_; clear HRT; (try simp only [Act.put, List.setIfInBounds_toArray, List.set_cons_zero, List.set_cons_succ])) | go_big_quiet_step ((go_at_call 14; refine (hwr _).mono ?_; rintro e w9 ⟨rfl, k9⟩; exact ⟨rfl, ⟨_, (KS.property _).trans k9⟩, rfl⟩))))
                          refine wpQuiet_nil ?_
                          rintro _ ⟨uy, rfl⟩
                          have kuy := uy.property
                          clear E1 E2 hNE hwr
                          generalize uy.val = w2 at *
                          have K2 : Hid (Keeps (fun _ => False) w w2) := HKR.out.trans kuy
                          have hpt := put_oe (HOE.out.keep kuy) (HB0.out w2 K2.out) (by omega) (⟨(u : Int), (t : Int), 1, x⟩ : Ed)
                          have hrd : ∀ W, Keeps (fun _ => False) w W → Calls Try.prog 16 #[.agg (T.clp (p t)).toArray, .int .i64 x] W fun e w' => e = .returned (.bool true) ∧ Keeps (fun _ => False) W w' := HRD.out
                          have HRD2 : Hid (∀ W, Keeps (fun _ => False) w W → Calls Try.prog 16 #[.agg (T.clp (p t)).toArray, .int .i64 x] W fun e w' => e = .returned (.bool true) ∧ Keeps (fun _ => False) W w') := hrd
                          clear hrd
                          go_wp2_with (first | (go_at_call 15; refine hpt.mono ?_; clear hpt; rintro e w3 ⟨la1, ln1, lc1, rfl, ⟨hoe1, hln1⟩, k3⟩; have K3 : Hid (Keeps (fun _ => False) w w3) := K2.out.trans k3; have hR2 := HRL.out w3 K3.out; have hrd := HRD2.out w3 K3.out) | (refine wpList_load_runL rfl 32 _ rfl ⟨b, off + t * 11, none⟩ rfl _ hR2 ?_; clear hR2) | (go_at_call 16; refine hrd.mono ?_; clear hrd; rintro e w5 ⟨rfl, k5⟩))
                          have K5 : Hid (Keeps (fun _ => False) w w5) := K3.out.trans k5
                          have E1 := ks_cell (HEU.out w5 K5.out)
                          have E2 := ks_cell (HFT.out w5 K5.out)
                          have hNE : Nonempty (KS w5) := ⟨⟨w5, Keeps.refl _ w5⟩⟩
                          have hoe5 := hoe1.keep k5
                          refine wp_region_ks (by kernel_rfl) (by kernel_rfl) ?_
                          (repeat (first | go_big_quiet_skip | go_big_quiet_step (fail)))
                          refine wpQuiet_nil ?_
                          rintro _ ⟨uz, rfl⟩
                          have kuz := uz.property
                          clear E1 E2 hNE
                          generalize uz.val = w6 at *
                          have K6 : Hid (Keeps (fun _ => False) w w6) := K5.out.trans kuz
                          have hpt := put_oe (hoe5.keep kuz) (HB0.out w6 K6.out) (by omega) (⟨(u : Int), (t : Int), 0, x⟩ : Ed)
                          go_wp2_with (go_at_call 15; refine hpt.mono ?_; clear hpt; rintro e w7 ⟨la2, ln2, lc2, rfl, ⟨hoe2, hln2⟩, k7⟩)
                          go_roundw
                          case rel => exact ⟨i + 1, insE (⟨(u : Int), (t : Int), 0, x⟩ : Ed) (insE (⟨(u : Int), (t : Int), 1, x⟩ : Ed) l), la2, ln2, lc2, rfl, by go_num, by omega, hoe2, HSX2.out.1, HSX2.out.2, by omega, K6.out.trans k7⟩
                          case measure => simp [intOf]; omega
                        · have s9 : decide (eu < ft) = false := decide_eq_false hf
                          have hqw : addW true eu et u t x l = insE (⟨(u : Int), (t : Int), 1, x⟩ : Ed) l := by unfold addW; rw [if_pos ⟨rfl, hw⟩]
                          have HSX := HSTEP.out (insE (⟨(t : Int), (u : Int), 2, x⟩ : Ed) (insE (⟨(u : Int), (t : Int), 1, x⟩ : Ed) l)) (by unfold addX; rw [if_pos rfl, if_neg hf, hqw])
                          have HSX2 : Hid (SrtE (insE (⟨(t : Int), (u : Int), 2, x⟩ : Ed) (insE (⟨(u : Int), (t : Int), 1, x⟩ : Ed) l)) ∧ ∀ e, e ∈ insE (⟨(t : Int), (u : Int), 2, x⟩ : Ed) (insE (⟨(u : Int), (t : Int), 1, x⟩ : Ed) l) ↔ Done ts t u (i + 1) e) := HSX
                          clear hqw HSX HSTEP hw hf
                          go_wp2_with fail
                          refine wp_region_ks (by kernel_rfl) (by kernel_rfl) ?_
                          (repeat (first | go_big_quiet_skip | (refine wpQuiet_load (by kernel_rfl) 32 _ rfl ⟨b, off + t * 11, none⟩ rfl _ HRT.out ?_; clear HRT; (try simp only [Act.put, List.setIfInBounds_toArray, List.set_cons_zero, List.set_cons_succ])) | go_big_quiet_step ((go_at_call 14; refine (hwr _).mono ?_; rintro e w9 ⟨rfl, k9⟩; exact ⟨rfl, ⟨_, (KS.property _).trans k9⟩, rfl⟩))))
                          refine wpQuiet_nil ?_
                          rintro _ ⟨uy, rfl⟩
                          have kuy := uy.property
                          clear E1 E2 hNE hwr
                          generalize uy.val = w2 at *
                          have K2 : Hid (Keeps (fun _ => False) w w2) := HKR.out.trans kuy
                          have hpt := put_oe (HOE.out.keep kuy) (HB0.out w2 K2.out) (by omega) (⟨(u : Int), (t : Int), 1, x⟩ : Ed)
                          have hrd : ∀ W, Keeps (fun _ => False) w W → Calls Try.prog 16 #[.agg (T.clp (p t)).toArray, .int .i64 x] W fun e w' => e = .returned (.bool true) ∧ Keeps (fun _ => False) W w' := HRD.out
                          have HRD2 : Hid (∀ W, Keeps (fun _ => False) w W → Calls Try.prog 16 #[.agg (T.clp (p t)).toArray, .int .i64 x] W fun e w' => e = .returned (.bool true) ∧ Keeps (fun _ => False) W w') := hrd
                          clear hrd
                          go_wp2_with (first | (go_at_call 15; refine hpt.mono ?_; clear hpt; rintro e w3 ⟨la1, ln1, lc1, rfl, ⟨hoe1, hln1⟩, k3⟩; have K3 : Hid (Keeps (fun _ => False) w w3) := K2.out.trans k3; have hR2 := HRL.out w3 K3.out; have hrd := HRD2.out w3 K3.out) | (refine wpList_load_runL rfl 32 _ rfl ⟨b, off + t * 11, none⟩ rfl _ hR2 ?_; clear hR2) | (go_at_call 16; refine hrd.mono ?_; clear hrd; rintro e w5 ⟨rfl, k5⟩))
                          have K5 : Hid (Keeps (fun _ => False) w w5) := K3.out.trans k5
                          have E1 := ks_cell (HEU.out w5 K5.out)
                          have E2 := ks_cell (HFT.out w5 K5.out)
                          have hNE : Nonempty (KS w5) := ⟨⟨w5, Keeps.refl _ w5⟩⟩
                          have hoe5 := hoe1.keep k5
                          refine wp_region_ks (by kernel_rfl) (by kernel_rfl) ?_
                          (repeat (first | go_big_quiet_skip | go_big_quiet_step (fail)))
                          refine wpQuiet_nil ?_
                          rintro _ ⟨uz, rfl⟩
                          have kuz := uz.property
                          clear E1 E2 hNE
                          generalize uz.val = w6 at *
                          have K6 : Hid (Keeps (fun _ => False) w w6) := K5.out.trans kuz
                          have hpt := put_oe (hoe5.keep kuz) (HB0.out w6 K6.out) (by omega) (⟨(t : Int), (u : Int), 2, x⟩ : Ed)
                          go_wp2_with (go_at_call 15; refine hpt.mono ?_; clear hpt; rintro e w7 ⟨la2, ln2, lc2, rfl, ⟨hoe2, hln2⟩, k7⟩)
                          go_roundw
                          case rel => exact ⟨i + 1, insE (⟨(t : Int), (u : Int), 2, x⟩ : Ed) (insE (⟨(u : Int), (t : Int), 1, x⟩ : Ed) l), la2, ln2, lc2, rfl, by go_num, by omega, hoe2, HSX2.out.1, HSX2.out.2, by omega, K6.out.trans k7⟩
                          case measure => simp [intOf]; omega
                    · have s7 : decide (eu < et) = false := decide_eq_false hw
                      cases rb
                      · have hz : True := trivial
                        clear hz
                        have hqw : addW true eu et u t x l = l := by unfold addW; rw [if_neg (fun q => hw q.2)]
                        have HSX := HSTEP.out (l) (by unfold addX; rw [if_neg (by decide), hqw])
                        have HSX2 : Hid (SrtE (l) ∧ ∀ e, e ∈ l ↔ Done ts t u (i + 1) e) := HSX
                        clear hqw HSX HSTEP hw
                        go_wp2_with fail
                        refine wp_region_ks (by kernel_rfl) (by kernel_rfl) ?_
                        (repeat (first | go_big_quiet_skip | (refine wpQuiet_load (by kernel_rfl) 32 _ rfl ⟨b, off + t * 11, none⟩ rfl _ HRT.out ?_; clear HRT; (try simp only [Act.put, List.setIfInBounds_toArray, List.set_cons_zero, List.set_cons_succ])) | go_big_quiet_step ((go_at_call 14; refine (hwr _).mono ?_; rintro e w9 ⟨rfl, k9⟩; exact ⟨rfl, ⟨_, (KS.property _).trans k9⟩, rfl⟩))))
                        refine wpQuiet_nil ?_
                        rintro _ ⟨uy, rfl⟩
                        have kuy := uy.property
                        clear E1 E2 hNE hwr
                        generalize uy.val = w2 at *
                        have K2 : Hid (Keeps (fun _ => False) w w2) := HKR.out.trans kuy
                        have K3 : Hid (Keeps (fun _ => False) w w2) := K2.out
                        have hoe1 := HOE.out.keep kuy
                        have hR2 := HRL.out w2 K3.out
                        have hrd := HRD.out w2 K3.out
                        go_wp2_with (first | (refine wpList_load_runL rfl 32 _ rfl ⟨b, off + t * 11, none⟩ rfl _ hR2 ?_; clear hR2) | (go_at_call 16; refine hrd.mono ?_; clear hrd; rintro e w5 ⟨rfl, k5⟩))
                        go_roundw
                        case rel => exact ⟨i + 1, l, la, ln, lc, rfl, by go_num, by omega, hoe1.keep k5, HSX2.out.1, HSX2.out.2, by omega, K3.out.trans k5⟩
                        case measure => simp [intOf]; omega
                      · by_cases hf : eu < ft
                        · have s9 : decide (eu < ft) = true := decide_eq_true hf
                          have hqw : addW true eu et u t x l = l := by unfold addW; rw [if_neg (fun q => hw q.2)]
                          have HSX := HSTEP.out (insE (⟨(u : Int), (t : Int), 0, x⟩ : Ed) (l)) (by unfold addX; rw [if_pos rfl, if_pos hf, hqw])
                          have HSX2 : Hid (SrtE (insE (⟨(u : Int), (t : Int), 0, x⟩ : Ed) (l)) ∧ ∀ e, e ∈ insE (⟨(u : Int), (t : Int), 0, x⟩ : Ed) (l) ↔ Done ts t u (i + 1) e) := HSX
                          clear hqw HSX HSTEP hw hf
                          go_wp2_with fail
                          refine wp_region_ks (by kernel_rfl) (by kernel_rfl) ?_
                          (repeat (first | go_big_quiet_skip | (refine wpQuiet_load (by kernel_rfl) 32 _ rfl ⟨b, off + t * 11, none⟩ rfl _ HRT.out ?_; clear HRT; (try simp only [Act.put, List.setIfInBounds_toArray, List.set_cons_zero, List.set_cons_succ])) | go_big_quiet_step ((go_at_call 14; refine (hwr _).mono ?_; rintro e w9 ⟨rfl, k9⟩; exact ⟨rfl, ⟨_, (KS.property _).trans k9⟩, rfl⟩))))
                          refine wpQuiet_nil ?_
                          rintro _ ⟨uy, rfl⟩
                          have kuy := uy.property
                          clear E1 E2 hNE hwr
                          generalize uy.val = w2 at *
                          have K2 : Hid (Keeps (fun _ => False) w w2) := HKR.out.trans kuy
                          have K3 : Hid (Keeps (fun _ => False) w w2) := K2.out
                          have hoe1 := HOE.out.keep kuy
                          have hR2 := HRL.out w2 K3.out
                          have hrd := HRD.out w2 K3.out
                          go_wp2_with (first | (refine wpList_load_runL rfl 32 _ rfl ⟨b, off + t * 11, none⟩ rfl _ hR2 ?_; clear hR2) | (go_at_call 16; refine hrd.mono ?_; clear hrd; rintro e w5 ⟨rfl, k5⟩))
                          have K5 : Hid (Keeps (fun _ => False) w w5) := K3.out.trans k5
                          have E1 := ks_cell (HEU.out w5 K5.out)
                          have E2 := ks_cell (HFT.out w5 K5.out)
                          have hNE : Nonempty (KS w5) := ⟨⟨w5, Keeps.refl _ w5⟩⟩
                          have hoe5 := hoe1.keep k5
                          refine wp_region_ks (by kernel_rfl) (by kernel_rfl) ?_
                          (repeat (first | go_big_quiet_skip | go_big_quiet_step (fail)))
                          refine wpQuiet_nil ?_
                          rintro _ ⟨uz, rfl⟩
                          have kuz := uz.property
                          clear E1 E2 hNE
                          generalize uz.val = w6 at *
                          have K6 : Hid (Keeps (fun _ => False) w w6) := K5.out.trans kuz
                          have hpt := put_oe (hoe5.keep kuz) (HB0.out w6 K6.out) (by omega) (⟨(u : Int), (t : Int), 0, x⟩ : Ed)
                          go_wp2_with (go_at_call 15; refine hpt.mono ?_; clear hpt; rintro e w7 ⟨la2, ln2, lc2, rfl, ⟨hoe2, hln2⟩, k7⟩)
                          go_roundw
                          case rel => exact ⟨i + 1, insE (⟨(u : Int), (t : Int), 0, x⟩ : Ed) (l), la2, ln2, lc2, rfl, by go_num, by omega, hoe2, HSX2.out.1, HSX2.out.2, by omega, K6.out.trans k7⟩
                          case measure => simp [intOf]; omega
                        · have s9 : decide (eu < ft) = false := decide_eq_false hf
                          have hqw : addW true eu et u t x l = l := by unfold addW; rw [if_neg (fun q => hw q.2)]
                          have HSX := HSTEP.out (insE (⟨(t : Int), (u : Int), 2, x⟩ : Ed) (l)) (by unfold addX; rw [if_pos rfl, if_neg hf, hqw])
                          have HSX2 : Hid (SrtE (insE (⟨(t : Int), (u : Int), 2, x⟩ : Ed) (l)) ∧ ∀ e, e ∈ insE (⟨(t : Int), (u : Int), 2, x⟩ : Ed) (l) ↔ Done ts t u (i + 1) e) := HSX
                          clear hqw HSX HSTEP hw hf
                          go_wp2_with fail
                          refine wp_region_ks (by kernel_rfl) (by kernel_rfl) ?_
                          (repeat (first | go_big_quiet_skip | (refine wpQuiet_load (by kernel_rfl) 32 _ rfl ⟨b, off + t * 11, none⟩ rfl _ HRT.out ?_; clear HRT; (try simp only [Act.put, List.setIfInBounds_toArray, List.set_cons_zero, List.set_cons_succ])) | go_big_quiet_step ((go_at_call 14; refine (hwr _).mono ?_; rintro e w9 ⟨rfl, k9⟩; exact ⟨rfl, ⟨_, (KS.property _).trans k9⟩, rfl⟩))))
                          refine wpQuiet_nil ?_
                          rintro _ ⟨uy, rfl⟩
                          have kuy := uy.property
                          clear E1 E2 hNE hwr
                          generalize uy.val = w2 at *
                          have K2 : Hid (Keeps (fun _ => False) w w2) := HKR.out.trans kuy
                          have K3 : Hid (Keeps (fun _ => False) w w2) := K2.out
                          have hoe1 := HOE.out.keep kuy
                          have hR2 := HRL.out w2 K3.out
                          have hrd := HRD.out w2 K3.out
                          go_wp2_with (first | (refine wpList_load_runL rfl 32 _ rfl ⟨b, off + t * 11, none⟩ rfl _ hR2 ?_; clear hR2) | (go_at_call 16; refine hrd.mono ?_; clear hrd; rintro e w5 ⟨rfl, k5⟩))
                          have K5 : Hid (Keeps (fun _ => False) w w5) := K3.out.trans k5
                          have E1 := ks_cell (HEU.out w5 K5.out)
                          have E2 := ks_cell (HFT.out w5 K5.out)
                          have hNE : Nonempty (KS w5) := ⟨⟨w5, Keeps.refl _ w5⟩⟩
                          have hoe5 := hoe1.keep k5
                          refine wp_region_ks (by kernel_rfl) (by kernel_rfl) ?_
                          (repeat (first | go_big_quiet_skip | go_big_quiet_step (fail)))
                          refine wpQuiet_nil ?_
                          rintro _ ⟨uz, rfl⟩
                          have kuz := uz.property
                          clear E1 E2 hNE
                          generalize uz.val = w6 at *
                          have K6 : Hid (Keeps (fun _ => False) w w6) := K5.out.trans kuz
                          have hpt := put_oe (hoe5.keep kuz) (HB0.out w6 K6.out) (by omega) (⟨(t : Int), (u : Int), 2, x⟩ : Ed)
                          go_wp2_with (go_at_call 15; refine hpt.mono ?_; clear hpt; rintro e w7 ⟨la2, ln2, lc2, rfl, ⟨hoe2, hln2⟩, k7⟩)
                          go_roundw
                          case rel => exact ⟨i + 1, insE (⟨(t : Int), (u : Int), 2, x⟩ : Ed) (l), la2, ln2, lc2, rfl, by go_num, by omega, hoe2, HSX2.out.1, HSX2.out.2, by omega, K6.out.trans k7⟩
                          case measure => simp [intOf]; omega
                · have o1 : decide ((i : Int) < (M : Int)) = false := decide_eq_false (by omega)
                  have o2 : decide (i < M) = false := decide_eq_false hli
                  have HMU : Hid (∀ e, e ∈ l ↔ Done ts t (u + 1) 0 e) := fun e => by rw [HSM.out.2 e, Done.nextU (i := i) (by rw [HM.out]; omega) e]
                  have HSR : Hid (SrtE l) := HSM.out.1
                  have HLN : Hid (ln ≤ 2097152 * t + 2 * wsum ts (u + 1)) := by
                    show ln ≤ 2097152 * t + 2 * (wsum ts u + (ts.getD u tv0).wrs.length)
                    rw [HM.out, HWU.out]
                    omega
                  clear HSM
                  go_wp2_with fail
                  go_roundg (gk - 1)
                  case measure => omega
                  case rel => exact ⟨u + 1, l, la, ln, lc, by omega, rfl, by go_num, by omega, HOE.out, HSR.out, HMU.out, HLN.out, HKR.out⟩
            · have s4 : (ou != 1) = true := bne_iff_ne.2 g3
              have HNT : Hid (¬ Two ts t u) := fun q => g3 (HTWO.out.1 q).2.2
              clear g1 g2 g3 HTWO HU
              have HMU : Hid (∀ e, e ∈ l ↔ Done ts t (u + 1) 0 e) := fun e => by rw [HSM.out.2 e, Done.skipU HNT.out e]
              have HLN : Hid (ln ≤ 2097152 * t + 2 * wsum ts (u + 1)) := by
                show ln ≤ 2097152 * t + 2 * (wsum ts u + (ts.getD u tv0).wrs.length)
                omega
              have HSR : Hid (SrtE l) := HSM.out.1
              clear HSM hln
              go_wp2_with fail
              go_roundg (gk - 1)
              case measure => omega
              case rel => exact ⟨u + 1, l, la, ln, lc, by omega, rfl, by go_num, by omega, HOE.out, HSR.out, HMU.out, HLN.out, HKR.out⟩
          · have s3 : (ot != 1) = true := bne_iff_ne.2 g2
            have HNT : Hid (¬ Two ts t u) := fun q => g2 (HTWO.out.1 q).2.1
            clear g1 g2 HTWO HU
            have HMU : Hid (∀ e, e ∈ l ↔ Done ts t (u + 1) 0 e) := fun e => by rw [HSM.out.2 e, Done.skipU HNT.out e]
            have HLN : Hid (ln ≤ 2097152 * t + 2 * wsum ts (u + 1)) := by
              show ln ≤ 2097152 * t + 2 * (wsum ts u + (ts.getD u tv0).wrs.length)
              omega
            have HSR : Hid (SrtE l) := HSM.out.1
            clear HSM hln
            go_wp2_with fail
            go_roundg (gk - 1)
            case measure => omega
            case rel => exact ⟨u + 1, l, la, ln, lc, by omega, rfl, by go_num, by omega, HOE.out, HSR.out, HMU.out, HLN.out, HKR.out⟩
        · have q1 : decide ((u : Int) < (N : Int)) = false := decide_eq_false (by omega)
          have q2 : decide (u < N) = false := decide_eq_false hlu
          have HMT : Hid (∀ e, e ∈ l ↔ Done ts (t + 1) 0 0 e) := fun e => by rw [HSM.out.2 e, Done.nextT (u := u) (by rw [HN.out]; omega) e]
          have HSR : Hid (SrtE l) := HSM.out.1
          have HLN : Hid (ln ≤ 2097152 * (t + 1)) := by
            have := wsum_le ts (u := u) (v := N) huN
            have := HS.out
            show ln ≤ 2097152 * (t + 1)
            omega
          clear HSM hln
          go_wp2_with fail
          go_roundg (G - 1)
          case measure => omega
          case rel => exact ⟨t + 1, l, la, ln, lc, by omega, rfl, by go_num, by omega, HOE.out, HSR.out, HMT.out, HLN.out, HKR.out⟩
    · have j1 : decide ((t : Int) < (N : Int)) = false := decide_eq_false (by omega)
      have j2 : decide (t < N) = false := decide_eq_false hlt
      have HX : Hid (BuP ts w (.returned (.tuple #[.slice la ln lc, .int .i64 0])) wr) := HEND.out wr l la ln lc HOE.out HSM.out.1 (by rw [show N = t by omega]; exact HSM.out.2) HKR.out
      clear HSM HEND
      go_wp2_with fail
      go_ret2
      exact HX.out
end Go.Proofs.Ythmlppepgcjfgaa
