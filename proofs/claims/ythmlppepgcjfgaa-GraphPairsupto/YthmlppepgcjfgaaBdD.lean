import Derived.Test.YthmlppepgcjfgaaBdC
namespace Go.Proofs.Ythmlppepgcjfgaa
open Go.RowKit Go.Deep
attribute [local go_sem] Oper.semAt_some run_store_nf run_store_f
def MyP (ts : List Tv) (w : World) (e : Ending) (w' : World) : Prop := ∃ ec, e = .returned (.int .i64 ec) ∧ ((MayT ts ∧ ec = 0) ∨ (¬ MayT ts ∧ ec = 160)) ∧ Keeps (fun _ => False) w w'
set_option maxHeartbeats 1500000 in
set_option maxRecDepth 100000 in
theorem may_any {w : World} {a : Option Addr} {cap : Nat} {ts : List Tv} {p : Nat → Lp} (hT : TXM w a ts p) (hn : ts.length ≤ 4398046511104) : Calls Try.prog 13 #[.slice a ts.length cap] w (MyP ts w) := by
  have HNO : Hid (∀ W, ¬ MayT ts → Keeps (fun _ => False) w W → MyP ts w (.returned (.int .i64 160)) W) := fun W h k => ⟨160, rfl, .inr ⟨h, rfl⟩, k⟩
  have HOK : Hid (∀ W, MayT ts → Keeps (fun _ => False) w W → MyP ts w (.returned (.int .i64 0)) W) := fun W h k => ⟨0, rfl, .inl ⟨h, rfl⟩, k⟩
  have HT : Hid (TXM w a ts p) := hT
  clear hT
  generalize hN : ts.length = N at *
  have HN : Hid (ts.length = N) := hN
  clear hN
  by_cases hm : 4096 < N
  · have d1 : decide ((N : Int) > 4096) = true := decide_eq_true (by omega)
    have d2 : decide ((4096 : Int) < (N : Int)) = true := decide_eq_true (by omega)
    have d3 : decide (4096 < N) = true := decide_eq_true hm
    have HX := HNO.out w (fun h => by have := h.1; have := HN.out; omega) (Keeps.refl _ w)
    have HX2 : Hid (MyP ts w (.returned (.int .i64 160)) w) := HX
    clear hm HX HNO HOK
    go_enter Try.func13, Try.ntmps13
    go_wp2_with fail
    go_ret
    exact HX2.out
  have d1 : decide ((N : Int) > 4096) = false := decide_eq_false (by omega)
  have d2 : decide ((4096 : Int) < (N : Int)) = false := decide_eq_false (by omega)
  have d3 : decide (4096 < N) = false := decide_eq_false hm
  have HBD : Hid (∀ i W, i < N → ¬ okT ts i → Keeps (fun _ => False) w W → MyP ts w (.returned (.int .i64 160)) W) := fun i W hi h k => HNO.out W (fun q => h (q.2 i (by rw [HN.out]; exact hi))) k
  have HGO : Hid (∀ W, (∀ i, i < N → okT ts i) → Keeps (fun _ => False) w W → MyP ts w (.returned (.int .i64 0)) W) := fun W h k => HOK.out W ⟨by rw [HN.out]; omega, by rw [HN.out]; exact h⟩ k
  clear HNO HOK
  go_enter Try.func13, Try.ntmps13
  go_wp2_with fail
  go_loopg [3] N (fun gh iv Wr => ∃ (i : Nat), gh + i = N ∧ iv = .int .i64 (i : Int) ∧ i ≤ N ∧ (∀ j, j < i → okT ts j) ∧ Keeps (fun _ => False) w Wr)
  case atStart => exact ⟨0, rfl, rfl, Nat.zero_le _, (fun j hj => absurd hj (Nat.not_lt_zero j)), Keeps.refl _ w⟩
  case round =>
    obtain ⟨i, hgh, rfl, hiN, hok, kr⟩ := hrel
    have HK : Hid (∀ j, j < i → okT ts j) := hok
    have HKR : Hid (Keeps (fun _ => False) w wr) := kr
    clear hok
    by_cases hlt : i < N
    · have j1 : decide ((i : Int) < (N : Int)) = true := decide_eq_true (by omega)
      have j2 : decide (i < N) = true := decide_eq_true hlt
      have j3 : (i : Int) < (N : Int) := by omega
      have j4 : (0 : Int) ≤ (i : Int) := by omega
      have hwi : IntKind.i64.wrap ((i : Int) + 1) = (i : Int) + 1 := by rw [IntKind.wrap_i64]; omega
      obtain ⟨⟨b, off, rfl, hc⟩, -, -⟩ := HT.out i (by rw [HN.out]; exact hlt)
      have c8 : wr.cell? ⟨b, off + i * 11 + 8, none⟩ = some (.int .i64 (ts.getD i tv0).out) := kr.cell (hc 8 _ rfl) (fun e => e)
      have c5 : wr.cell? ⟨b, off + i * 11 + 5, none⟩ = some (.int .i64 (ts.getD i tv0).bgn) := kr.cell (hc 5 _ rfl) (fun e => e)
      have c6 : wr.cell? ⟨b, off + i * 11 + 6, none⟩ = some (.int .i64 (ts.getD i tv0).fnl) := kr.cell (hc 6 _ rfl) (fun e => e)
      have c7 : wr.cell? ⟨b, off + i * 11 + 7, none⟩ = some (.int .i64 (ts.getD i tv0).end_) := kr.cell (hc 7 _ rfl) (fun e => e)
      have HC7 : Hid (∀ W, Keeps (fun _ => False) wr W → W.cell? ⟨b, off + i * 11 + 7, none⟩ = some (.int .i64 (ts.getD i tv0).end_)) := fun W k => k.cell c7 (fun e => e)
      have HB1 : Hid (∀ W, ¬ okT ts i → Keeps (fun _ => False) w W → MyP ts w (.returned (.int .i64 160)) W) := fun W h k => HBD.out i W hlt h k
      have HJ : Hid (∀ j W, j < i → Keeps (fun _ => False) w W → W.cell? ⟨b, off + j * 11 + 8, none⟩ = some (.int .i64 (ts.getD j tv0).out) ∧ W.cell? ⟨b, off + j * 11 + 7, none⟩ = some (.int .i64 (ts.getD j tv0).end_)) := fun j W hj k => by
        obtain ⟨⟨b', off', e, hc'⟩, -, -⟩ := HT.out j (by rw [HN.out]; omega)
        injection e with e
        injection e with e1 e2 _
        subst e1 e2
        exact ⟨k.cell (hc' 8 _ rfl) (fun e => e), k.cell (hc' 7 _ rfl) (fun e => e)⟩
      have HOI : Hid (okT ts i ↔ ((ts.getD i tv0).out = 1 → (0 ≤ (ts.getD i tv0).fnl ∧ (ts.getD i tv0).bgn < (ts.getD i tv0).end_) ∧ ∀ j, j < i → (ts.getD j tv0).out = 1 → (ts.getD j tv0).end_ ≠ (ts.getD i tv0).end_)) := Iff.rfl
      have HNX : Hid (okT ts i → ∀ j, j < i + 1 → okT ts j) := fun h j hj => by
        by_cases e : j = i
        · rw [e]; exact h
        · exact HK.out j (by omega)
      clear hc kr HK
      generalize (ts.getD i tv0).out = oi at *
      generalize (ts.getD i tv0).bgn = bi at *
      generalize (ts.getD i tv0).fnl = fi at *
      generalize (ts.getD i tv0).end_ = ei at *
      by_cases h1 : oi = 1
      · have s1 : (oi != 1) = false := by simp [h1]
        have R5 := ks_cell c5
        have R6 := ks_cell c6
        have R7 := ks_cell c7
        have hNE : Nonempty (KS wr) := ⟨⟨wr, Keeps.refl _ wr⟩⟩
        by_cases h2 : fi < 0
        · have s2 : decide (fi < 0) = true := decide_eq_true h2
          have HE := fun W k => HB1.out W (fun q => by have := ((HOI.out.1 q) h1).1.1; omega) k
          have HE2 : Hid (∀ W, Keeps (fun _ => False) w W → MyP ts w (.returned (.int .i64 160)) W) := HE
          clear h1 h2 HE c5 c6 c7
          go_wp2_with fail
          refine wp_region_ks (by kernel_rfl) (by kernel_rfl) ?_
          (repeat (first | go_big_quiet_skip | go_big_quiet_step (fail)))
          refine wpQuiet_nil ?_
          rintro _ ⟨u, rfl⟩
          have ku := u.property
          clear R5 R6 R7 hNE
          generalize u.val = wu at *
          go_wp2_with fail
          go_ret
          exact HE2.out _ (HKR.out.trans ku)
        · have s2 : decide (fi < 0) = false := decide_eq_false h2
          by_cases h3 : ei ≤ bi
          · have s3 : decide (ei ≤ bi) = true := decide_eq_true h3
            have HE := fun W k => HB1.out W (fun q => by have := ((HOI.out.1 q) h1).1.2; omega) k
            have HE2 : Hid (∀ W, Keeps (fun _ => False) w W → MyP ts w (.returned (.int .i64 160)) W) := HE
            clear h1 h2 h3 HE c5 c6 c7
            go_wp2_with fail
            refine wp_region_ks (by kernel_rfl) (by kernel_rfl) ?_
            (repeat (first | go_big_quiet_skip | go_big_quiet_step (fail)))
            refine wpQuiet_nil ?_
            rintro _ ⟨u, rfl⟩
            have ku := u.property
            clear R5 R6 R7 hNE
            generalize u.val = wu at *
            go_wp2_with fail
            go_ret
            exact HE2.out _ (HKR.out.trans ku)
          · have s3 : decide (ei ≤ bi) = false := decide_eq_false h3
            have HOI2 : Hid ((∀ j, j < i → (ts.getD j tv0).out = 1 → (ts.getD j tv0).end_ ≠ ei) → okT ts i) := fun h => HOI.out.2 (fun _ => ⟨⟨by omega, by omega⟩, h⟩)
            have HB2 : Hid (∀ j W, j < i → (ts.getD j tv0).out = 1 → (ts.getD j tv0).end_ = ei → Keeps (fun _ => False) w W → MyP ts w (.returned (.int .i64 160)) W) := fun j W hj q1 q2 k => HB1.out W (fun q => ((HOI.out.1 q) h1).2 j hj q1 q2) k
            clear h1 h2 h3 c5 c6 c7
            go_wp2_with fail
            refine wp_region_ks (by kernel_rfl) (by kernel_rfl) ?_
            (repeat (first | go_big_quiet_skip | go_big_quiet_step (fail)))
            refine wpQuiet_nil ?_
            rintro _ ⟨u, rfl⟩
            have ku := u.property
            clear R5 R6 R7 hNE
            generalize u.val = wu at *
            have HK2 : Hid (Keeps (fun _ => False) wr wu) := ku
            clear ku
            obtain ⟨wo, hwo⟩ : ∃ wo, wo = wr := ⟨_, rfl⟩
            subst hwo
            go_wp2_with fail
            go_loopw [4] (fun jv Wx => ∃ (j : Nat), jv = .int .i64 (j : Int) ∧ j ≤ i ∧ (∀ q, q < j → (ts.getD q tv0).out = 1 → (ts.getD q tv0).end_ ≠ ei) ∧ Keeps (fun _ => False) wo Wx) (fun jv _ => i - (intOf jv).toNat)
            case atStart => exact ⟨0, rfl, Nat.zero_le _, (fun q hq => absurd hq (Nat.not_lt_zero q)), HK2.out⟩
            case round =>
              obtain ⟨j, rfl, hji, hun, kx⟩ := hrel
              have HUN : Hid (∀ q, q < j → (ts.getD q tv0).out = 1 → (ts.getD q tv0).end_ ≠ ei) := hun
              have HKX : Hid (Keeps (fun _ => False) wo wr) := kx
              clear hun
              by_cases hlj : j < i
              · have o1 : decide ((j : Int) < (i : Int)) = true := decide_eq_true (by omega)
                have o2 : decide (j < i) = true := decide_eq_true hlj
                have o3 : (j : Int) < (N : Int) := by omega
                have o4 : (0 : Int) ≤ (j : Int) := by omega
                have hwj : IntKind.i64.wrap ((j : Int) + 1) = (j : Int) + 1 := by rw [IntKind.wrap_i64]; omega
                obtain ⟨e8, e7⟩ := HJ.out j wr hlj (HKR.out.trans kx)
                have E8 := ks_cell e8
                have E7 := ks_cell e7
                have E6 := ks_cell (HC7.out wr kx)
                have hNE : Nonempty (KS wr) := ⟨⟨wr, Keeps.refl _ wr⟩⟩
                have HB3 : Hid ((ts.getD j tv0).out = 1 → (ts.getD j tv0).end_ = ei → ∀ W, Keeps (fun _ => False) w W → MyP ts w (.returned (.int .i64 160)) W) := fun q1 q2 W k => HB2.out j W hlj q1 q2 k
                have HU2 : Hid (¬ ((ts.getD j tv0).out = 1 ∧ (ts.getD j tv0).end_ = ei) → ∀ q, q < j + 1 → (ts.getD q tv0).out = 1 → (ts.getD q tv0).end_ ≠ ei) := fun h q hq => by
                  by_cases e : q = j
                  · rw [e]; exact fun q1 q2 => h ⟨q1, q2⟩
                  · exact HUN.out q (by omega)
                clear e8 e7 kx
                generalize (ts.getD j tv0).out = oj at *
                generalize (ts.getD j tv0).end_ = ej at *
                by_cases g1 : oj = 1
                · have s4 : (oj == 1) = true := by simp [g1]
                  by_cases g2 : ej = ei
                  · have s5 : (ej == ei) = true := by simp [g2]
                    have HE2 : Hid (∀ W, Keeps (fun _ => False) w W → MyP ts w (.returned (.int .i64 160)) W) := HB3.out g1 g2
                    clear g1 g2 HB3 HU2
                    go_wp2_with fail
                    refine wp_region_ks (by kernel_rfl) (by kernel_rfl) ?_
                    (repeat (first | go_big_quiet_skip | go_big_quiet_step (fail)))
                    refine wpQuiet_nil ?_
                    rintro _ ⟨v, rfl⟩
                    have kv := v.property
                    clear E6 E7 E8 hNE
                    generalize v.val = wv at *
                    go_wp2_with fail
                    go_ret
                    exact HE2.out _ ((HKR.out.trans HKX.out).trans kv)
                  · have s5 : (ej == ei) = false := beq_eq_false_iff_ne.2 g2
                    have HU3 : Hid (∀ q, q < j + 1 → (ts.getD q tv0).out = 1 → (ts.getD q tv0).end_ ≠ ei) := HU2.out (fun q => g2 q.2)
                    clear g1 g2 HB3 HU2
                    go_wp2_with fail
                    refine wp_region_ks (by kernel_rfl) (by kernel_rfl) ?_
                    (repeat (first | go_big_quiet_skip | go_big_quiet_step (fail)))
                    refine wpQuiet_nil ?_
                    rintro _ ⟨v, rfl⟩
                    have kv := v.property
                    clear E6 E7 E8 hNE
                    generalize v.val = wv at *
                    go_wp2_with fail
                    go_roundw
                    case rel => exact ⟨j + 1, by go_num, by omega, HU3.out, HKX.out.trans kv⟩
                    case measure => simp [intOf]; omega
                · have s4 : (oj == 1) = false := beq_eq_false_iff_ne.2 g1
                  have HU3 : Hid (∀ q, q < j + 1 → (ts.getD q tv0).out = 1 → (ts.getD q tv0).end_ ≠ ei) := HU2.out (fun q => g1 q.1)
                  clear g1 HB3 HU2
                  go_wp2_with fail
                  refine wp_region_ks (by kernel_rfl) (by kernel_rfl) ?_
                  (repeat (first | go_big_quiet_skip | go_big_quiet_step (fail)))
                  refine wpQuiet_nil ?_
                  rintro _ ⟨v, rfl⟩
                  have kv := v.property
                  clear E6 E7 E8 hNE
                  generalize v.val = wv at *
                  go_wp2_with fail
                  go_roundw
                  case rel => exact ⟨j + 1, by go_num, by omega, HU3.out, HKX.out.trans kv⟩
                  case measure => simp [intOf]; omega
              · have o1 : decide ((j : Int) < (i : Int)) = false := decide_eq_false (by omega)
                have o2 : decide (j < i) = false := decide_eq_false hlj
                have HN1 : Hid (∀ j, j < i + 1 → okT ts j) := HNX.out (HOI2.out (fun q hq => HUN.out q (by omega)))
                have HK4 : Hid (Keeps (fun _ => False) w wr) := HKR.out.trans kx
                clear kx
                go_wp2_with fail
                go_roundg (gk - 1)
                case measure => omega
                case rel => exact ⟨i + 1, by omega, by go_num, by omega, HN1.out, HK4.out⟩
      · have s1 : (oi != 1) = true := bne_iff_ne.2 h1
        have HN1 : Hid (∀ j, j < i + 1 → okT ts j) := HNX.out (HOI.out.2 (fun q => absurd q h1))
        clear h1 HNX HOI HB1
        go_wp2_with fail
        go_roundg (gk - 1)
        case measure => omega
        case rel => exact ⟨i + 1, by omega, by go_num, by omega, HN1.out, HKR.out⟩
    · have j1 : decide ((i : Int) < (N : Int)) = false := decide_eq_false (by omega)
      have j2 : decide (i < N) = false := decide_eq_false hlt
      have HX := HGO.out wr (fun j hj => HK.out j (by omega)) kr
      have HX2 : Hid (MyP ts w (.returned (.int .i64 0)) wr) := HX
      clear HX kr
      go_wp2_with fail
      go_ret
      exact HX2.out
end Go.Proofs.Ythmlppepgcjfgaa
