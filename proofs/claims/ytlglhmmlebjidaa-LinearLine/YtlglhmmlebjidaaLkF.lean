import Derived.Test.YtlglhmmlebjidaaLkE
import Derived.Test.YtlglhmmlebjidaaLiW
namespace Go.Proofs.Ytlglhmmlebjidaa
open Go.RowKit
set_option maxHeartbeats 2000000 in
set_option maxRecDepth 100000 in
theorem lline_any {w : World} {a pb : Option Addr} {cap pc : Nat} {l : List Cl} {P : List Int} (hl : CSL w a l) (hc64 : ∀ c ∈ l, C64 c) (hn : l.length ≤ 2199023255552) (hcap : l.length ≤ cap) (hp : KL w pb P) (hpn : P.length ≤ 17592186044416) : Calls Try.prog 6 #[.slice a l.length cap, .slice pb P.length pc] w fun e w' => e = .returned (.bool true) ∧ Below w.heap.size w w' := by
  have hh := head_any w
  have HP : Hid (KL w pb P) := hp
  clear hp
  obtain ⟨PN, hPN⟩ : ∃ PN, PN = P.length := ⟨_, rfl⟩
  have HPN : Hid (P.length = PN) := hPN.symm
  rw [← hPN] at hpn
  rw [← hPN]
  clear hPN
  by_cases h8 : 8 < l.length
  · have s1 : decide ((l.length : Int) > 8) = true := decide_eq_true (by omega)
    have s2 : decide ((8 : Int) < (l.length : Int)) = true := decide_eq_true (by omega)
    have s3 : decide (8 < l.length) = true := decide_eq_true (by omega)
    obtain ⟨b, off, rfl, -⟩ := hl.lt (by omega)
    have hc8 : 8 ≤ cap := by omega
    have hc9 : (8 : Int) ≤ (cap : Int) := by omega
    have HL0 : Hid (CSL w (some ⟨b, off, none⟩) (l.take 8)) := hl.cut 8
    have HC : Hid (∀ c ∈ l.take 8, C64 c) := fun c hc => hc64 c (List.mem_of_mem_take hc)
    have hl8' : (l.take 8).length = 8 := by rw [List.length_take]; omega
    clear hl hc64 hn h8 hcap
    obtain ⟨N, hN⟩ : ∃ N, N = l.length := ⟨_, rfl⟩
    rw [← hN] at s1 s2 s3
    rw [← hN]
    clear hN
    generalize l.take 8 = l at *
    go_enter Try.func6, Try.ntmps6
    refine wp_seq_k (fun KK hKK => ?_)
    have hKH : Hid _ := hKK
    clear hKK
    go_wp2_with fail
    refine hKH.out _ _ ?_
    clear hKH KK
    refine wp_seq_k (fun KK hKK => ?_)
    have hKH : Hid _ := hKK
    clear hKK
    go_wp2_with (go_at_call 9; refine hh.mono ?_; clear hh; rintro e w1 ⟨rfl, K1⟩)
    refine hKH.out _ _ ?_
    clear hKH KK
    refine wp_seq_k (fun KK hKK => ?_)
    have hKH : Hid _ := hKK
    clear hKK
    go_wp2_with fail
    refine hKH.out _ _ ?_
    clear hKH KK
    have hl := HL0.out.keep K1
    have hl8 : l.length ≤ 8 := by omega
    have hse := search_any (cap := cap) hl HC.out (by omega)
    have HLN : Hid (∀ W pa (Q : List Int) pc, Keeps (fun _ => False) w1 W → MayL l → KL W pa Q → Q.length ≤ 17592186044416 → Calls Try.prog 17 #[.slice (some ⟨b, off, none⟩) l.length cap, .slice pa Q.length pc] W (LlP l Q W)) := fun W pa Q pc k hM hQ hq => line_any (hl.keep k) hM hl8 hQ hq
    have HKP : Hid (KL w1 pb P) := HP.out.keep K1
    have hnu := fun W x => num_any x W
    have H8 : Hid (l.length ≤ 8) := hl8
    clear hl hl8
    rw [hl8'] at hse HLN
    refine wp_seq_k (fun KK hKK => ?_)
    have hKH : Hid _ := hKK
    clear hKK
    go_wp2_with (go_at_call 11; refine hse.mono ?_; clear hse; rintro e w3 ⟨v, fb, fc, rfl, hS, k3⟩; have HS : Hid (SeA l w1 w3 v fb fc) := hS; clear hS)
    refine hKH.out _ _ ?_
    clear hKH KK
    have HKE : Hid (Keeps (fun _ => False) w w3) := K1.trans k3
    rcases HS.out with ⟨h8, -⟩ | ⟨-, -, rfl, rfl, rfl⟩ | ⟨-, hM, rfl, hF⟩
    · have := H8.out
      omega
    · clear HS
      go_wp2_with (go_at_call 12; refine (hnu _ _).mono ?_; rintro e wn ⟨rfl, hwn⟩; rw [hwn]; clear hwn wn)
      go_ret
      exact ⟨rfl, HKE.out.below (Nat.le_refl _) (fun _ _ e => e)⟩
    · clear HS
      have HPP : Hid (∀ W, Keeps (fun _ => False) w3 W → Calls Try.prog 17 #[.slice (some ⟨b, off, none⟩) 8 cap, .slice pb PN pc] W (LlP l P W)) := fun W k => by
        have h := HLN.out W pb P pc (k3.trans k) hM ((HKP.out.keep k3).keep k) (by rw [HPN.out]; exact hpn)
        rw [HPN.out] at h
        exact h
      rcases hF with ⟨r, hr, rfl, ho⟩ | ⟨hr, rfl, rfl⟩
      · have HFR : Hid (fstL l = some r) := hr
        obtain ⟨sa, sc, rfl, -⟩ := own_slice ho
        have HKR : Hid (KL w3 sa (iOf r)) := (PM.of ho).kl
        have hr8 : r.length ≤ 8 := Nat.le_trans (fst_len hr) H8.out
        have hlr := HLN.out w3 sa (iOf r) sc k3 hM HKR.out (by rw [iOf_len]; omega)
        rw [iOf_len] at hlr
        have HAH : Hid (∀ W, Keeps (fun _ => False) w3 W → ∀ L, P = iOf L → Calls Try.prog 18 #[.slice sa r.length sc, .slice pb PN pc] W (AhP r L W)) := fun W k L e => by
          have h := ahead_any (cap := sc) (pc := pc) (HKR.out.keep k) (B := L) (by rw [← e]; exact (HKP.out.keep k3).keep k) hr8
          rw [← iOf_len L, ← e, HPN.out] at h
          exact h
        clear ho hr hM HLN hr8
        obtain ⟨RN, hRN⟩ : ∃ RN, RN = r.length := ⟨_, rfl⟩
        rw [← hRN] at HAH hlr
        rw [← hRN]
        clear hRN
        refine wp_seq_k (fun KK hKK => ?_)
        have hKH : Hid _ := hKK
        clear hKK
        go_wp2_with (go_at_call 12; refine (hnu _ _).mono ?_; rintro e wn ⟨rfl, hwn⟩; rw [hwn]; clear hwn wn)
        refine hKH.out _ _ ?_
        clear hKH KK
        refine wp_seq_k (fun KK hKK => ?_)
        have hKH : Hid _ := hKK
        clear hKK
        go_wp2_with (go_at_call 17; refine hlr.mono ?_; clear hlr; rintro e w4 ⟨b4, rfl, hb4, k4⟩; obtain rfl : b4 = true := hb4.2 (fst_lnI HFR.out); clear hb4)
        refine hKH.out _ _ ?_
        clear hKH KK
        have hpp := HPP.out w4 k4
        clear HPP
        by_cases hL : LnI l P
        · obtain ⟨L, r', eL, hr', hx⟩ := lnI_fst hL
          have HHL : Hid (LnI l P) := hL
          rw [HFR.out] at hr'
          injection hr' with hr'
          subst hr'
          have HX : Hid (lexL r L) := hx
          have HAL : Hid (∀ W, Keeps (fun _ => False) w3 W → Calls Try.prog 18 #[.slice sa RN sc, .slice pb PN pc] W (AhP r L W)) := fun W k => HAH.out W k L eL
          clear hL eL hx HAH
          go_wp2_with (first | (go_at_call 17; refine hpp.mono ?_; clear hpp; rintro e w5 ⟨b5, rfl, hb5, k5⟩; obtain rfl : b5 = true := hb5.2 HHL.out; clear hb5; have k45 := k4.trans k5; have hah := HAL.out w5 k45; clear HAL) | (go_at_call 18; refine hah.mono ?_; clear hah; rintro e w6 ⟨b6, rfl, hb6, k6⟩; obtain rfl : b6 = true := hb6.2 HX.out; clear hb6))
          go_ret
          exact ⟨rfl, ((HKE.out.trans k45).trans k6).below (Nat.le_refl _) (fun _ _ e => e)⟩
        · have HHL : Hid (¬ LnI l P) := hL
          clear hL HAH
          go_wp2_with (go_at_call 17; refine hpp.mono ?_; clear hpp; rintro e w5 ⟨b5, rfl, hb5, k5⟩; obtain rfl : b5 = false := (by cases b5 with | false => rfl | true => exact absurd (hb5.1 rfl) HHL.out); clear hb5; have k45 := k4.trans k5)
          go_ret
          exact ⟨rfl, (HKE.out.trans k45).below (Nat.le_refl _) (fun _ _ e => e)⟩
      · have HHL : Hid (¬ LnI l P) := fun h => by
          obtain ⟨L, r', -, hr', -⟩ := lnI_fst h
          rw [hr] at hr'
          cases hr'
        clear hr hM HLN
        have hpp := HPP.out w3 (Keeps.refl _ _)
        clear HPP
        refine wp_seq_k (fun KK hKK => ?_)
        have hKH : Hid _ := hKK
        clear hKK
        go_wp2_with (go_at_call 12; refine (hnu _ _).mono ?_; rintro e wn ⟨rfl, hwn⟩; rw [hwn]; clear hwn wn)
        refine hKH.out _ _ ?_
        clear hKH KK
        refine wp_seq_k (fun KK hKK => ?_)
        have hKH : Hid _ := hKK
        clear hKK
        go_wp2_with fail
        refine hKH.out _ _ ?_
        clear hKH KK
        go_wp2_with (go_at_call 17; refine hpp.mono ?_; clear hpp; rintro e w5 ⟨b5, rfl, hb5, k5⟩; obtain rfl : b5 = false := (by cases b5 with | false => rfl | true => exact absurd (hb5.1 rfl) HHL.out); clear hb5)
        go_ret
        exact ⟨rfl, (HKE.out.trans k5).below (Nat.le_refl _) (fun _ _ e => e)⟩
  · have s1 : decide ((l.length : Int) > 8) = false := decide_eq_false (by omega)
    have s2 : decide ((8 : Int) < (l.length : Int)) = false := decide_eq_false (by omega)
    have s3 : decide (8 < l.length) = false := decide_eq_false (by omega)
    have HL0 : Hid (CSL w a l) := hl
    have HC : Hid (∀ c ∈ l, C64 c) := hc64
    have hl8 : l.length ≤ 8 := by omega
    obtain ⟨N, hN⟩ : ∃ N, N = l.length := ⟨_, rfl⟩
    rw [← hN] at s1 s2 s3
    rw [← hN]
    have HNN : Hid (l.length = N) := hN.symm
    clear hl hc64 hn h8 hcap hN
    go_enter Try.func6, Try.ntmps6
    refine wp_seq_k (fun KK hKK => ?_)
    have hKH : Hid _ := hKK
    clear hKK
    go_wp2_with fail
    refine hKH.out _ _ ?_
    clear hKH KK
    refine wp_seq_k (fun KK hKK => ?_)
    have hKH : Hid _ := hKK
    clear hKK
    go_wp2_with (go_at_call 9; refine hh.mono ?_; clear hh; rintro e w1 ⟨rfl, K1⟩)
    refine hKH.out _ _ ?_
    clear hKH KK
    refine wp_seq_k (fun KK hKK => ?_)
    have hKH : Hid _ := hKK
    clear hKK
    go_wp2_with fail
    refine hKH.out _ _ ?_
    clear hKH KK
    have hl := HL0.out.keep K1
    have hse := search_any (cap := cap) hl HC.out (by omega)
    have HLN : Hid (∀ W pa (Q : List Int) pc, Keeps (fun _ => False) w1 W → MayL l → KL W pa Q → Q.length ≤ 17592186044416 → Calls Try.prog 17 #[.slice a l.length cap, .slice pa Q.length pc] W (LlP l Q W)) := fun W pa Q pc k hM hQ hq => line_any (hl.keep k) hM hl8 hQ hq
    have HKP : Hid (KL w1 pb P) := HP.out.keep K1
    have hnu := fun W x => num_any x W
    have H8 : Hid (l.length ≤ 8) := hl8
    clear hl hl8
    rw [HNN.out] at hse HLN
    refine wp_seq_k (fun KK hKK => ?_)
    have hKH : Hid _ := hKK
    clear hKK
    go_wp2_with (go_at_call 11; refine hse.mono ?_; clear hse; rintro e w3 ⟨v, fb, fc, rfl, hS, k3⟩; have HS : Hid (SeA l w1 w3 v fb fc) := hS; clear hS)
    refine hKH.out _ _ ?_
    clear hKH KK
    have HKE : Hid (Keeps (fun _ => False) w w3) := K1.trans k3
    rcases HS.out with ⟨h8, -⟩ | ⟨-, -, rfl, rfl, rfl⟩ | ⟨-, hM, rfl, hF⟩
    · have := H8.out
      omega
    · clear HS
      go_wp2_with (go_at_call 12; refine (hnu _ _).mono ?_; rintro e wn ⟨rfl, hwn⟩; rw [hwn]; clear hwn wn)
      go_ret
      exact ⟨rfl, HKE.out.below (Nat.le_refl _) (fun _ _ e => e)⟩
    · clear HS
      have HPP : Hid (∀ W, Keeps (fun _ => False) w3 W → Calls Try.prog 17 #[.slice a N cap, .slice pb PN pc] W (LlP l P W)) := fun W k => by
        have h := HLN.out W pb P pc (k3.trans k) hM ((HKP.out.keep k3).keep k) (by rw [HPN.out]; exact hpn)
        rw [HPN.out] at h
        exact h
      rcases hF with ⟨r, hr, rfl, ho⟩ | ⟨hr, rfl, rfl⟩
      · have HFR : Hid (fstL l = some r) := hr
        obtain ⟨sa, sc, rfl, -⟩ := own_slice ho
        have HKR : Hid (KL w3 sa (iOf r)) := (PM.of ho).kl
        have hr8 : r.length ≤ 8 := Nat.le_trans (fst_len hr) H8.out
        have hlr := HLN.out w3 sa (iOf r) sc k3 hM HKR.out (by rw [iOf_len]; omega)
        rw [iOf_len] at hlr
        have HAH : Hid (∀ W, Keeps (fun _ => False) w3 W → ∀ L, P = iOf L → Calls Try.prog 18 #[.slice sa r.length sc, .slice pb PN pc] W (AhP r L W)) := fun W k L e => by
          have h := ahead_any (cap := sc) (pc := pc) (HKR.out.keep k) (B := L) (by rw [← e]; exact (HKP.out.keep k3).keep k) hr8
          rw [← iOf_len L, ← e, HPN.out] at h
          exact h
        clear ho hr hM HLN hr8
        obtain ⟨RN, hRN⟩ : ∃ RN, RN = r.length := ⟨_, rfl⟩
        rw [← hRN] at HAH hlr
        rw [← hRN]
        clear hRN
        refine wp_seq_k (fun KK hKK => ?_)
        have hKH : Hid _ := hKK
        clear hKK
        go_wp2_with (go_at_call 12; refine (hnu _ _).mono ?_; rintro e wn ⟨rfl, hwn⟩; rw [hwn]; clear hwn wn)
        refine hKH.out _ _ ?_
        clear hKH KK
        refine wp_seq_k (fun KK hKK => ?_)
        have hKH : Hid _ := hKK
        clear hKK
        go_wp2_with (go_at_call 17; refine hlr.mono ?_; clear hlr; rintro e w4 ⟨b4, rfl, hb4, k4⟩; obtain rfl : b4 = true := hb4.2 (fst_lnI HFR.out); clear hb4)
        refine hKH.out _ _ ?_
        clear hKH KK
        have hpp := HPP.out w4 k4
        clear HPP
        by_cases hL : LnI l P
        · obtain ⟨L, r', eL, hr', hx⟩ := lnI_fst hL
          have HHL : Hid (LnI l P) := hL
          rw [HFR.out] at hr'
          injection hr' with hr'
          subst hr'
          have HX : Hid (lexL r L) := hx
          have HAL : Hid (∀ W, Keeps (fun _ => False) w3 W → Calls Try.prog 18 #[.slice sa RN sc, .slice pb PN pc] W (AhP r L W)) := fun W k => HAH.out W k L eL
          clear hL eL hx HAH
          go_wp2_with (first | (go_at_call 17; refine hpp.mono ?_; clear hpp; rintro e w5 ⟨b5, rfl, hb5, k5⟩; obtain rfl : b5 = true := hb5.2 HHL.out; clear hb5; have k45 := k4.trans k5; have hah := HAL.out w5 k45; clear HAL) | (go_at_call 18; refine hah.mono ?_; clear hah; rintro e w6 ⟨b6, rfl, hb6, k6⟩; obtain rfl : b6 = true := hb6.2 HX.out; clear hb6))
          go_ret
          exact ⟨rfl, ((HKE.out.trans k45).trans k6).below (Nat.le_refl _) (fun _ _ e => e)⟩
        · have HHL : Hid (¬ LnI l P) := hL
          clear hL HAH
          go_wp2_with (go_at_call 17; refine hpp.mono ?_; clear hpp; rintro e w5 ⟨b5, rfl, hb5, k5⟩; obtain rfl : b5 = false := (by cases b5 with | false => rfl | true => exact absurd (hb5.1 rfl) HHL.out); clear hb5; have k45 := k4.trans k5)
          go_ret
          exact ⟨rfl, (HKE.out.trans k45).below (Nat.le_refl _) (fun _ _ e => e)⟩
      · have HHL : Hid (¬ LnI l P) := fun h => by
          obtain ⟨L, r', -, hr', -⟩ := lnI_fst h
          rw [hr] at hr'
          cases hr'
        clear hr hM HLN
        have hpp := HPP.out w3 (Keeps.refl _ _)
        clear HPP
        refine wp_seq_k (fun KK hKK => ?_)
        have hKH : Hid _ := hKK
        clear hKK
        go_wp2_with (go_at_call 12; refine (hnu _ _).mono ?_; rintro e wn ⟨rfl, hwn⟩; rw [hwn]; clear hwn wn)
        refine hKH.out _ _ ?_
        clear hKH KK
        refine wp_seq_k (fun KK hKK => ?_)
        have hKH : Hid _ := hKK
        clear hKK
        go_wp2_with fail
        refine hKH.out _ _ ?_
        clear hKH KK
        go_wp2_with (go_at_call 17; refine hpp.mono ?_; clear hpp; rintro e w5 ⟨b5, rfl, hb5, k5⟩; obtain rfl : b5 = false := (by cases b5 with | false => rfl | true => exact absurd (hb5.1 rfl) HHL.out); clear hb5)
        go_ret
        exact ⟨rfl, (HKE.out.trans k5).below (Nat.le_refl _) (fun _ _ e => e)⟩
end Go.Proofs.Ytlglhmmlebjidaa
