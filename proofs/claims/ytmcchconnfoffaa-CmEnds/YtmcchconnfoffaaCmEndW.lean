import Derived.Test.YtmcchconnfoffaaCmPatW
namespace Go.Proofs.Ytmcchconnfoffaa
open Go.RowKit
set_option maxHeartbeats 1600000 in
set_option maxRecDepth 1000000 in
theorem ends_no1 {w : World} {ki pa : Int} {a : Option Addr} {len cap : Nat} (h : ki < 0 ∨ (¬ ki < 0 ∧ 4 < ki)) : Calls Try.prog 5 #[.int .i64 ki, .int .i64 pa, .slice a len cap] w fun e w' => e = .returned (.bool true) ∧ Below w.heap.size w w' := by
  have hn := new_no1 w (k := ki) (p := pa) (by omega)
  rcases h with h | ⟨h, h2⟩
  all_goals
    go_enter Try.func5, Try.ntmps5
    go_wp2_with (first | (go_at_call 9; refine hn.mono ?_; rintro e w1 ⟨rfl, rfl⟩) | (go_at_call 10; refine (num_any _ _).mono ?_; rintro e w1 ⟨rfl, rfl⟩))
    go_ret
    exact ⟨rfl, Below.refl _ _⟩
set_option maxHeartbeats 1600000 in
set_option maxRecDepth 1000000 in
theorem ends_no2 {w : World} {ki pa : Int} {a : Option Addr} {len cap : Nat} (h0 : ¬ ki < 0) (h4 : ¬ 4 < ki) (h : pa < 1 ∨ (¬ pa < 1 ∧ 4096 < pa)) : Calls Try.prog 5 #[.int .i64 ki, .int .i64 pa, .slice a len cap] w fun e w' => e = .returned (.bool true) ∧ Below w.heap.size w w' := by
  have hn := new_no2 w (k := ki) (p := pa) (by omega) (by omega) (by omega)
  rcases h with h | ⟨h, h2⟩
  all_goals
    go_enter Try.func5, Try.ntmps5
    go_wp2_with (first | (go_at_call 9; refine hn.mono ?_; rintro e w1 ⟨rfl, rfl⟩) | (go_at_call 10; refine (num_any _ _).mono ?_; rintro e w1 ⟨rfl, rfl⟩))
    go_ret
    exact ⟨rfl, Below.refl _ _⟩
/-- A round of a conflict. -/
theorem in0 : In64 0 := by unfold In64; omega
theorem inMax : In64 9223372036854775807 := by unfold In64; omega
theorem nat_in {t : Nat} (h : t ≤ 9223372036854775807) : In64 (t : Int) := ⟨by omega, by omega⟩
theorem round_law {K : Nat} (hK : K < 4) {p : Int} (c : Cf) (hw : c.waited ≤ p) (h1 : 0 ≤ c.waited) : ∃ V : Vd, judgev K p c.norm = V ∧ Fm K V ∧ Hid (V = .ab ∨ (V = .out ∧ c.waited = p) ∨ ∃ m, V = .wt m ∧ 1 ≤ m ∧ m ≤ p - c.waited) := by
  refine ⟨_, rfl, judge_form (by omega) _ _ (by simp only [Cf.norm]; omega), ?_⟩
  show _ ∨ _
  rw [judge_rul (by omega)]
  cases hr : rulv K c.norm with
  | none => exact .inl rfl
  | some n =>
    have hn := rul_form (by omega) (by simp only [Cf.norm]; omega) hr
    simp only [hK, if_true]
    have e : c.norm.waited = c.waited := by simp only [Cf.norm]; omega
    rw [e]
    by_cases h : p - c.waited < 1
    · rw [cut_out h]; exact .inr (.inl ⟨rfl, by omega⟩)
    · rw [cut_wt (by omega)]; exact .inr (.inr ⟨_, rfl, by omega, by omega⟩)
set_option maxHeartbeats 1600000 in
set_option maxRecDepth 1000000 in
theorem ends_lo {w : World} {K : Nat} {p : Int} {a : Option Addr} {l : List Cf} (hK : K < 4) (hp : Pat p) (hl : CL w a l) (hok : ∀ q ∈ l, q.ok) (hlen : l.length ≤ 9223372036854775807) (cap : Nat) : Calls Try.prog 5 #[.int .i64 (K : Int), .int .i64 p, .slice a l.length cap] w fun e w' => e = .returned (.bool true) ∧ Below w.heap.size w w' := by
  have hn := new_any w (k := K) (p := p) (by omega) hp
  have g1 : decide ((K : Int) < 0) = false := by simp
  have g2 : decide ((4 : Int) < (K : Int)) = false := by simp; omega
  have g2' : decide ((4 : Nat) < K) = false := by simp; omega
  have g3 : decide (p < 1) = false := by have := hp.1; simp; omega
  have g4 : decide (4096 < p) = false := by have := hp.2; simp; omega
  have g5 : ((K : Int) == 4) = false := by simp; omega
  have hp1 := hp.1
  have hp2 := hp.2
  go_enter Try.func5, Try.ntmps5
  go_wp2_with (first | (go_at_call 9; refine hn.mono ?_; clear hn; rintro e w1 ⟨b, rfl, hb, M1, k1⟩) | (go_at_call 10; refine (num_any _ _).mono ?_; rintro e w2 ⟨rfl, rfl⟩))
  go_loopw [9, 10] (fun wv tv W => ∃ wd t : Nat, wv = .int .i64 (wd : Int) ∧ tv = .int .i64 (t : Int) ∧ t ≤ wd ∧ (wd : Int) ≤ p ∧ Mg W b K p ∧ Keeps (fun _ => False) w W) (fun _ tv _ => p.toNat + 1 - (intOf tv).toNat)
  case atStart => exact ⟨0, 0, rfl, rfl, Nat.le_refl _, by omega, M1, k1⟩
  case round =>
    obtain ⟨wd, t, rfl, rfl, htw, hwp, M3, K3⟩ := hrel
    have htp : decide ((t : Int) ≤ p) = true := by simp; omega
    have C3 := hl.keep K3
    clear M1 k1
    by_cases hlt : t < l.length
    · have hltI : (t : Int) < (l.length : Int) := by omega
      obtain ⟨b3, off, rfl, hb3, hc3⟩ := C3.some (by omega)
      obtain ⟨d0, d1, d2, d3, d4, d5, d6, d7⟩ := hc3 t hlt
      have hq := hok (l.getD t cf0) (by rw [List.getD_eq_getElem?_getD, List.getElem?_eq_getElem hlt]; exact List.getElem_mem _)
      generalize l.getD t cf0 = q at *
      obtain ⟨mine, theirs, born, enemy, flag, tries, waited, draw⟩ := q
      simp only at d0 d1 d2 d3 d4 d5 d6 d7
      have hcc : Cf.ok ⟨mine, theirs, born, enemy, flag, (t : Int), (wd : Int), draw⟩ := ⟨hq.1, hq.2.1, hq.2.2.1, hq.2.2.2.1, nat_in (by omega), nat_in (by omega), hq.2.2.2.2.2.2⟩
      obtain ⟨⟨va, vt, vn⟩, hV, hfo, HC⟩ := round_law hK (p := p) ⟨mine, theirs, born, enemy, flag, (t : Int), (wd : Int), draw⟩ (by simpa using hwp) (by simp)
      have hj := fun W (M : Mg W b K p) => judge_x M hcc hV
      have hf := fun W => formed_x W (by omega) hfo
      clear hV hfo hq hcc hc3 C3
      go_wp2_with fail
      refine (hj _ (M3.keep ((Keeps.refl _ wr).alloc _))).mono ?_
      rintro e w5 ⟨rfl, k5⟩
      have k5' := ((Keeps.refl (fun _ => False) wr).alloc _).trans k5
      have M5 := M3.keep k5'
      have K5 := K3.trans k5'
      clear hj k5 k5' M3 K3
      go_wp2_with fail
      refine (hf _).mono ?_
      clear hf
      rintro e w7 ⟨rfl, k7⟩
      obtain ⟨v0, v1, v2⟩ := (VB.mk w5 ⟨va, vt, vn⟩).keep k7
      have k7' := ((Keeps.refl (fun _ => False) w5).alloc _).trans k7
      have M7 := M5.keep k7'
      have K7 := K5.trans k7'
      clear k7 k7' M5 K5
      simp only at v0 v1 v2
      rcases HC.out with q | ⟨q, hwq⟩ | ⟨m, q, m1, m2⟩
      · clear HC
        simp only [Vd.ab, Vd.mk.injEq] at q
        obtain ⟨rfl, rfl, rfl⟩ := q
        go_wp2_with fail
        go_ret
        exact ⟨rfl, K7.below (Nat.le_refl _) (fun _ _ e => e)⟩
      · clear HC
        simp only [Vd.out, Vd.mk.injEq] at q hwq
        obtain ⟨rfl, rfl, rfl⟩ := q
        have hne : ((wd : Int) != p) = false := by simp [hwq]
        go_wp2_with fail
        go_ret
        exact ⟨rfl, K7.below (Nat.le_refl _) (fun _ _ e => e)⟩
      · clear HC
        simp only [Vd.wt, Vd.mk.injEq] at q m2
        obtain ⟨rfl, rfl, rfl⟩ := q
        have hle : ¬ p < (wd : Int) + vn := by omega
        go_wp2_with fail
        go_roundw
        case rel => exact ⟨wd + vn.toNat, t + 1, by go_num, by go_num, by omega, by omega, M7, K7⟩
        case measure => simp [intOf]; omega
    · have hltI : decide ((t : Int) < (l.length : Int)) = false := by simp; omega
      have hltN : decide (t < l.length) = false := by simp; omega
      have hcc : Cf.ok ⟨0, 9223372036854775807, 0, 0, false, (t : Int), (wd : Int), 0⟩ := ⟨in0, inMax, in0, in0, nat_in (by omega), nat_in (by omega), in0⟩
      obtain ⟨⟨va, vt, vn⟩, hV, hfo, HC⟩ := round_law hK (p := p) ⟨0, 9223372036854775807, 0, 0, false, (t : Int), (wd : Int), 0⟩ (by simpa using hwp) (by simp)
      have hj := fun W (M : Mg W b K p) => judge_x M hcc hV
      have hf := fun W => formed_x W (by omega) hfo
      clear hV hfo hcc C3
      go_wp2_with fail
      refine (hj _ (M3.keep ((Keeps.refl _ wr).alloc _))).mono ?_
      rintro e w5 ⟨rfl, k5⟩
      have k5' := ((Keeps.refl (fun _ => False) wr).alloc _).trans k5
      have M5 := M3.keep k5'
      have K5 := K3.trans k5'
      clear hj k5 k5' M3 K3
      go_wp2_with fail
      refine (hf _).mono ?_
      clear hf
      rintro e w7 ⟨rfl, k7⟩
      obtain ⟨v0, v1, v2⟩ := (VB.mk w5 ⟨va, vt, vn⟩).keep k7
      have k7' := ((Keeps.refl (fun _ => False) w5).alloc _).trans k7
      have M7 := M5.keep k7'
      have K7 := K5.trans k7'
      clear k7 k7' M5 K5
      simp only at v0 v1 v2
      rcases HC.out with q | ⟨q, hwq⟩ | ⟨m, q, m1, m2⟩
      · clear HC
        simp only [Vd.ab, Vd.mk.injEq] at q
        obtain ⟨rfl, rfl, rfl⟩ := q
        go_wp2_with fail
        go_ret
        exact ⟨rfl, K7.below (Nat.le_refl _) (fun _ _ e => e)⟩
      · clear HC
        simp only [Vd.out, Vd.mk.injEq] at q hwq
        obtain ⟨rfl, rfl, rfl⟩ := q
        have hne : ((wd : Int) != p) = false := by simp [hwq]
        go_wp2_with fail
        go_ret
        exact ⟨rfl, K7.below (Nat.le_refl _) (fun _ _ e => e)⟩
      · clear HC
        simp only [Vd.wt, Vd.mk.injEq] at q m2
        obtain ⟨rfl, rfl, rfl⟩ := q
        have hle : ¬ p < (wd : Int) + vn := by omega
        go_wp2_with fail
        go_roundw
        case rel => exact ⟨wd + vn.toNat, t + 1, by go_num, by go_num, by omega, by omega, M7, K7⟩
        case measure => simp [intOf]; omega
theorem round_law4 {p : Int} (c : Cf) : ∃ V : Vd, judgev 4 p c.norm = V ∧ Fm 4 V := ⟨_, rfl, judge_form (by omega) _ _ (by simp only [Cf.norm]; omega)⟩
theorem formed_4 (W : World) {va vt : Bool} {vn : Int} (hv : Fm 4 ⟨va, vt, vn⟩) : Calls Try.prog 11 #[.agg #[.bool va, .bool vt, .int .i64 vn], .int .i64 4] W fun e w' => e = .returned (.bool true) ∧ Keeps (fun _ => False) W w' := formed_x W (K := 4) (by omega) hv
set_option maxHeartbeats 1600000 in
set_option maxRecDepth 1000000 in
theorem ends_hi {w : World} {p : Int} {a : Option Addr} {l : List Cf} (hp : Pat p) (hl : CL w a l) (hok : ∀ q ∈ l, q.ok) (hlen : l.length ≤ 9223372036854775807) (cap : Nat) : Calls Try.prog 5 #[.int .i64 4, .int .i64 p, .slice a l.length cap] w fun e w' => e = .returned (.bool true) ∧ Below w.heap.size w w' := by
  have hn := new4 w hp
  have g3 : decide (p < 1) = false := by have := hp.1; simp; omega
  have g4 : decide (4096 < p) = false := by have := hp.2; simp; omega
  have hp1 := hp.1
  have hp2 := hp.2
  go_enter Try.func5, Try.ntmps5
  go_wp2_with (first | (go_at_call 9; refine hn.mono ?_; clear hn; rintro e w1 ⟨b, rfl, hb, M1, k1⟩) | (go_at_call 10; refine (num_any _ _).mono ?_; rintro e w2 ⟨rfl, rfl⟩))
  go_loopw [9, 10] (fun wv tv W => ∃ wd t : Nat, wd = 0 ∧ wv = .int .i64 0 ∧ tv = .int .i64 (t : Int) ∧ t ≤ l.length ∧ Mg W b 4 p ∧ Keeps (fun _ => False) w W) (fun _ tv _ => l.length + 1 - (intOf tv).toNat)
  case atStart => exact ⟨0, 0, rfl, rfl, rfl, Nat.zero_le _, M1, k1⟩
  case round =>
    obtain ⟨wd, t, hwd, rfl, rfl, htl, M3, K3⟩ := hrel
    subst hwd
    have htp : decide ((t : Int) ≤ (l.length : Int)) = true := by simp; omega
    have htq : decide (t ≤ l.length) = true := by simp; omega
    have C3 := hl.keep K3
    clear M1 k1
    by_cases hlt : t < l.length
    · have hltI : (t : Int) < (l.length : Int) := by omega
      obtain ⟨b3, off, rfl, hb3, hc3⟩ := C3.some (by omega)
      obtain ⟨d0, d1, d2, d3, d4, d5, d6, d7⟩ := hc3 t hlt
      have hq := hok (l.getD t cf0) (by rw [List.getD_eq_getElem?_getD, List.getElem?_eq_getElem hlt]; exact List.getElem_mem _)
      generalize l.getD t cf0 = q at *
      obtain ⟨mine, theirs, born, enemy, flag, tries, waited, draw⟩ := q
      simp only at d0 d1 d2 d3 d4 d5 d6 d7
      have hcc : Cf.ok ⟨mine, theirs, born, enemy, flag, (t : Int), 0, draw⟩ := ⟨hq.1, hq.2.1, hq.2.2.1, hq.2.2.2.1, nat_in (by omega), in0, hq.2.2.2.2.2.2⟩
      obtain ⟨⟨va, vt, vn⟩, hV, hfo⟩ := round_law4 (p := p) ⟨mine, theirs, born, enemy, flag, (t : Int), 0, draw⟩
      have hj := fun W (M : Mg W b 4 p) => judge_x M hcc hV
      have hf := fun W => formed_4 W hfo
      clear hV hfo hq hcc hc3 C3
      cases hbo : decide ((t : Int) ≤ p)
      all_goals
        go_wp2_with fail
        refine (hj _ (M3.keep ((Keeps.refl _ wr).alloc _))).mono ?_
        rintro e w5 ⟨rfl, k5⟩
        have k5' := ((Keeps.refl (fun _ => False) wr).alloc _).trans k5
        have M5 := M3.keep k5'
        have K5 := K3.trans k5'
        clear hj k5 k5' M3 K3
        go_wp2_with fail
        refine (hf _).mono ?_
        clear hf
        rintro e w7 ⟨rfl, k7⟩
        obtain ⟨v0, v1, v2⟩ := (VB.mk w5 ⟨va, vt, vn⟩).keep k7
        have k7' := ((Keeps.refl (fun _ => False) w5).alloc _).trans k7
        have M7 := M5.keep k7'
        have K7 := K5.trans k7'
        clear k7 k7' M5 K5
        simp only at v0 v1 v2
        clear v0 v1 v2
        go_wp2_with fail
        go_roundw
        case rel => exact ⟨0, t + 1, rfl, by go_num, by go_num, by omega, M7, K7⟩
        case measure => simp [intOf]; omega
    · have hltI : decide ((t : Int) < (l.length : Int)) = false := by simp; omega
      have hltN : decide (t < l.length) = false := by simp; omega
      have hcc : Cf.ok ⟨0, 9223372036854775807, 0, 0, false, (t : Int), 0, 0⟩ := ⟨in0, inMax, in0, in0, nat_in (by omega), in0, in0⟩
      obtain ⟨⟨va, vt, vn⟩, hV, hfo⟩ := round_law4 (p := p) ⟨0, 9223372036854775807, 0, 0, false, (t : Int), 0, 0⟩
      have hj := fun W (M : Mg W b 4 p) => judge_x M hcc hV
      have hf := fun W => formed_4 W hfo
      clear hV hfo hcc C3
      cases hbo : decide ((t : Int) ≤ p)
      all_goals
        go_wp2_with fail
        refine (hj _ (M3.keep ((Keeps.refl _ wr).alloc _))).mono ?_
        rintro e w5 ⟨rfl, k5⟩
        have k5' := ((Keeps.refl (fun _ => False) wr).alloc _).trans k5
        have M5 := M3.keep k5'
        have K5 := K3.trans k5'
        clear hj k5 k5' M3 K3
        go_wp2_with fail
        refine (hf _).mono ?_
        clear hf
        rintro e w7 ⟨rfl, k7⟩
        obtain ⟨v0, v1, v2⟩ := (VB.mk w5 ⟨va, vt, vn⟩).keep k7
        have k7' := ((Keeps.refl (fun _ => False) w5).alloc _).trans k7
        have M7 := M5.keep k7'
        have K7 := K5.trans k7'
        clear k7 k7' M5 K5
        simp only at v0 v1 v2
        clear v0 v1 v2
        have hge : decide ((l.length : Int) ≤ (t : Int)) = true := by simp; omega
        have hgn : decide (l.length ≤ t) = true := by simp; omega
        go_wp2_with fail
        go_ret
        exact ⟨rfl, K7.below (Nat.le_refl _) (fun _ _ e => e)⟩
theorem endsWalk (w : World) (ki : Int) (_ : I64 ki) (pa : Int) (_ : I64 pa) {a : Option Addr} {l : List Cf} (hl : CL w a l) (hok : ∀ q ∈ l, q.ok) (hlen : l.length ≤ 9223372036854775807) (cap : Nat) : Calls Try.prog 5 #[.int .i64 ki, .int .i64 pa, .slice a l.length cap] w fun e w' => e = .returned (.bool true) ∧ Below w.heap.size w w' := by
  by_cases h0 : ki < 0
  · exact ends_no1 (.inl h0)
  · by_cases h4 : 4 < ki
    · exact ends_no1 (.inr ⟨h0, h4⟩)
    · by_cases h1 : pa < 1
      · exact ends_no2 h0 h4 (.inl h1)
      · by_cases h2 : 4096 < pa
        · exact ends_no2 h0 h4 (.inr ⟨h1, h2⟩)
        · have hp : Pat pa := ⟨by omega, by omega⟩
          obtain ⟨K, rfl⟩ := Int.eq_ofNat_of_zero_le (show 0 ≤ ki by omega)
          by_cases hK : K < 4
          · exact ends_lo hK hp hl hok hlen cap
          · obtain rfl : K = 4 := by omega
            exact ends_hi hp hl hok hlen cap
end Go.Proofs.Ytmcchconnfoffaa
