import Derived.Test.YtmcchconnfoffabCmP
namespace Go.Proofs.Ytmcchconnfoffab
open Go.RowKit
theorem lowz_succ (i : Nat) (d : Int) : lowz (i + 1) d = lowz i d + 2 ^ i * (d / 2 ^ i % 2) := by
  unfold lowz
  have hp : (0 : Int) < 2 ^ i := Int.pow_pos (by omega)
  have e1 := Int.mul_ediv_add_emod d (2 ^ i)
  have r1 := Int.emod_nonneg d (show (2 : Int) ^ i ≠ 0 by omega)
  have r2 := Int.emod_lt_of_pos d hp
  have e2 := Int.mul_ediv_add_emod (d / 2 ^ i) 2
  have q1 := Int.emod_nonneg (d / 2 ^ i) (show (2 : Int) ≠ 0 by omega)
  have q2 := Int.emod_lt_of_pos (d / 2 ^ i) (show (0 : Int) < 2 by omega)
  rw [Int.pow_succ]
  generalize d / 2 ^ i = q at *
  generalize d % 2 ^ i = r at *
  generalize (2 : Int) ^ i = B at *
  have e3 : d = (r + B * (q % 2)) + (B * 2) * (q / 2) := by
    rw [← e1]
    conv => lhs; rw [← e2]
    rw [Int.mul_add, Int.mul_assoc]
    omega
  rw [e3, Int.add_mul_emod_self_left]
  refine Int.emod_eq_of_lt ?_ ?_
  · rcases (show q % 2 = 0 ∨ q % 2 = 1 by omega) with h | h <;> rw [h] <;> omega
  · rcases (show q % 2 = 0 ∨ q % 2 = 1 by omega) with h | h <;> rw [h] <;> omega
theorem lowz_step {i : Nat} {d D : Int} (hD : D = d / 2 ^ i) : (D % 2 = 0 → lowz (i + 1) d = lowz i d) ∧ (D % 2 = 1 → lowz (i + 1) d = lowz i d + 2 ^ i) ∧ d / 2 ^ (i + 1) = D / 2 := by
  have h := lowz_succ i d
  rw [← hD] at h
  refine ⟨fun e => by rw [h, e]; omega, fun e => by rw [h, e]; omega, ?_⟩
  rw [Int.pow_succ, hD, Int.ediv_ediv_of_nonneg (Int.le_of_lt (Int.pow_pos (by omega)))]
theorem td2 (D : Int) : (D % 2 = 0 → D.tdiv 2 = D / 2 ∧ D.tmod 2 = 0) ∧ (D % 2 = 1 → 0 ≤ D → D.tdiv 2 = D / 2 ∧ D.tmod 2 = 1) ∧ (D % 2 = 1 → D < 0 → D.tdiv 2 = D / 2 + 1 ∧ D.tmod 2 = -1) := by
  have h := Int.tdiv_eq_ediv (a := D) (b := 2)
  have h2 := Int.mul_tdiv_add_tmod D 2
  have hd : (2 : Int) ∣ D ↔ D % 2 = 0 := Int.dvd_iff_emod_eq_zero
  simp only [hd] at h
  refine ⟨fun e => ?_, fun e e0 => ?_, fun e e0 => ?_⟩
  · rw [if_pos (.inr e)] at h; omega
  · rw [if_pos (.inl e0)] at h; omega
  · rw [if_neg (by omega), show Int.sign 2 = 1 from rfl] at h; omega
/-- A number halved, the next lower one. -/
structure Lw (i : Nat) (d D B L : Int) : Prop where
  s0 : D % 2 = 0 → lowz (i + 1) d = L
  s1 : D % 2 = 1 → lowz (i + 1) d = L + B
  s2 : d / 2 ^ (i + 1) = D / 2
  b : (2 : Int) ^ (i + 1) = 2 * B
theorem lw {i : Nat} {d D : Int} (hD : D = d / 2 ^ i) : Lw i d D (2 ^ i) (lowz i d) :=
  ⟨(lowz_step hD).1, (lowz_step hD).2.1, (lowz_step hD).2.2, by rw [Int.pow_succ]; omega⟩
set_option maxHeartbeats 1600000 in
theorem rlow_any (w : World) (n : Nat) (hn : n ≤ 7) (d : Int) (hd : In64 d) : Calls Try.prog 26 #[.int .i64 d, .int .i64 n] w fun e w' => e = .returned (.int .i64 (lowz n d)) ∧ w' = w := by
  go_enter Try.func26, Try.ntmps26
  go_wp2
  go_loop [0, 5, 6, 7] (fun dv vv bv iv => ∃ (i : Nat) (D : Int), i ≤ n ∧ dv = .int .i64 D ∧ D = d / 2 ^ i ∧ In64 D ∧ vv = .int .i64 (lowz i d) ∧ bv = .int .i64 (2 ^ i) ∧ iv = .int .i64 (i : Int)) (fun _ _ _ iv => n - (intOf iv).toNat)
  case atStart => exact ⟨0, d, Nat.zero_le _, rfl, by simp, hd, by simp [lowz], by simp, rfl⟩
  case round =>
    obtain ⟨i, D, hi, rfl, hD, hDI, rfl, rfl, rfl⟩ := hrel
    by_cases hlt : i < n
    · have hltI : (i : Int) < (n : Int) := by omega
      have HL := lw hD
      have p0 : (0 : Int) < 2 ^ i := Int.pow_pos (by omega)
      have p1 := pow_le7 (n := i) (by omega)
      have l0 := lowz_nn i d
      have l1 := lowz_lt i d
      generalize (2 : Int) ^ i = B at *
      generalize lowz i d = L at *
      have D1 := hDI.1
      have D2 := hDI.2
      have HT := td2 D
      clear hD hDI hd
      rcases (show D % 2 = 0 ∨ (D % 2 = 1 ∧ 0 ≤ D) ∨ (D % 2 = 1 ∧ D < 0) by omega) with h | ⟨h, h0⟩ | ⟨h, h0⟩
      · obtain ⟨q1, q2⟩ := HT.1 h
        have q3 := HL.s0 h
        have q4 := HL.s2
        have q5 := HL.b
        have HQ : Hid (lowz (i + 1) d = L ∧ d / 2 ^ (i + 1) = D / 2 ∧ (2 : Int) ^ (i + 1) = 2 * B) := ⟨q3, q4, q5⟩
        clear HL HT q3 q4 q5 h
        cases hneg : decide (D < 0)
        all_goals
          go_wp2
          go_round
          case rel => exact ⟨i + 1, D / 2, by omega, rfl, HQ.out.2.1.symm, ⟨by omega, by omega⟩, by rw [HQ.out.1], by rw [HQ.out.2.2], by go_num⟩
          case measure => simp [intOf]; omega
      · obtain ⟨q1, q2⟩ := HT.2.1 h h0
        have HQ : Hid (lowz (i + 1) d = L + B ∧ d / 2 ^ (i + 1) = D / 2 ∧ (2 : Int) ^ (i + 1) = 2 * B) := ⟨HL.s1 h, HL.s2, HL.b⟩
        have hneg : decide (D < 0) = false := by simp; omega
        clear HL HT h
        go_wp2
        go_round
        case rel => exact ⟨i + 1, D / 2, by omega, rfl, HQ.out.2.1.symm, ⟨by omega, by omega⟩, by rw [HQ.out.1], by rw [HQ.out.2.2], by go_num⟩
        case measure => simp [intOf]; omega
      · obtain ⟨q1, q2⟩ := HT.2.2 h h0
        have HQ : Hid (lowz (i + 1) d = L + B ∧ d / 2 ^ (i + 1) = D / 2 ∧ (2 : Int) ^ (i + 1) = 2 * B) := ⟨HL.s1 h, HL.s2, HL.b⟩
        have hneg : decide (D < 0) = true := by simp; omega
        clear HL HT h
        go_wp2
        go_round
        case rel => exact ⟨i + 1, D / 2, by omega, by go_num, HQ.out.2.1.symm, ⟨by omega, by omega⟩, by rw [HQ.out.1], by rw [HQ.out.2.2], by go_num⟩
        case measure => simp [intOf]; omega
    · obtain rfl : i = n := by omega
      go_wp2
      go_ret
      exact ⟨rfl, rfl⟩
end Go.Proofs.Ytmcchconnfoffab
