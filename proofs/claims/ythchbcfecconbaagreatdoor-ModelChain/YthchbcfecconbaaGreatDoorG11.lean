import Derived.Test.YthchbcfecconbaaGreatDoorG10
import Derived.Test.YthchbcfecconbaaGreatDoorG05
namespace Go.Proofs.YthchbcfecconbaaGreatDoor
open Go.ChangeShapes Go.WideShapes Go.ChangeAt Go.RowKit
theorem tdiv_same {a b : Int} (s : (a < 0) = (b < 0)) : a.tdiv b = ((a.natAbs / b.natAbs : Nat) : Int) := by
  by_cases g : a < 0
  · have g2 : b < 0 := by rw [← s]; exact g
    obtain ⟨x, hx⟩ := Int.eq_ofNat_of_zero_le (show 0 ≤ -a by omega)
    obtain ⟨y, hy⟩ := Int.eq_ofNat_of_zero_le (show 0 ≤ -b by omega)
    have ea : a = -(x : Int) := by omega
    have eb : b = -(y : Int) := by omega
    rw [ea, eb, Int.neg_tdiv, Int.tdiv_neg, Int.neg_neg, Int.natAbs_neg, Int.natAbs_neg, Int.natAbs_natCast, Int.natAbs_natCast]
    rfl
  · have g2 : ¬ b < 0 := by rw [← s]; exact g
    obtain ⟨x, hx⟩ := Int.eq_ofNat_of_zero_le (show 0 ≤ a by omega)
    obtain ⟨y, hy⟩ := Int.eq_ofNat_of_zero_le (show 0 ≤ b by omega)
    rw [hx, hy, Int.natAbs_natCast, Int.natAbs_natCast]
    rfl
theorem tdiv_diff {a b : Int} (s : (a < 0) ≠ (b < 0)) : a.tdiv b = -((a.natAbs / b.natAbs : Nat) : Int) := by
  by_cases g : a < 0
  · have g2 : ¬ b < 0 := fun k => s (by simp [g, k])
    obtain ⟨x, hx⟩ := Int.eq_ofNat_of_zero_le (show 0 ≤ -a by omega)
    obtain ⟨y, hy⟩ := Int.eq_ofNat_of_zero_le (show 0 ≤ b by omega)
    have ea : a = -(x : Int) := by omega
    rw [ea, hy, Int.neg_tdiv, Int.natAbs_neg, Int.natAbs_natCast, Int.natAbs_natCast]
    rfl
  · have g2 : b < 0 := by
      by_cases k : b < 0
      · exact k
      · exact absurd (by simp [g, k]) s
    obtain ⟨x, hx⟩ := Int.eq_ofNat_of_zero_le (show 0 ≤ a by omega)
    obtain ⟨y, hy⟩ := Int.eq_ofNat_of_zero_le (show 0 ≤ -b by omega)
    have eb : b = -(y : Int) := by omega
    rw [hx, eb, Int.tdiv_neg, Int.natAbs_neg, Int.natAbs_natCast, Int.natAbs_natCast]
    rfl
theorem quo_end (N D q r : Nat) (h : q * D + r = N) (hr : r < D) : q = N / D := by
  rw [← h, Nat.mul_comm, Nat.mul_add_div (by omega), Nat.div_eq_of_lt hr]; rfl
theorem quo_less (Y D q r : Nat) (h : q * D + r = Y) (hr : r < D) : q ≤ Y := by
  have : q * 1 ≤ q * D := Nat.mul_le_mul_left q (by omega)
  omega
theorem quo_big (X D q r : Nat) (h : q * D + r = X / 2) : (q * 2 + 1) * D + (r * 2 + X % 2) = X + D := by
  have e : (q * 2 + 1) * D = q * D * 2 + D := by rw [Nat.add_mul, Nat.one_mul, Nat.mul_right_comm]
  rw [e]; omega
theorem quo_small (X D q r : Nat) (h : q * D + r = X / 2) : (q * 2) * D + (r * 2 + X % 2) = X := by
  have e : (q * 2) * D = q * D * 2 := by rw [Nat.mul_right_comm]
  rw [e]; omega
theorem div_lt64' (x j : Nat) (h : x < 18446744073709551616) : x / 2 ^ j < 18446744073709551616 := Nat.lt_of_le_of_lt (Nat.div_le_self _ _) h
theorem mag_nat (a : Int) : mag a = ((a.natAbs : Nat) : Int) := rfl
theorem quo_same {a b : Int} (hb0 : b ≠ 0) (s : (a < 0) = (b < 0)) (q : Nat) (h : q = a.natAbs / b.natAbs) : wrap64 ((q : Nat) : Int) = ap 4 a b := by
  rw [ap4, if_neg hb0, tdiv_same s, h]
theorem quo_diff {a b : Int} (hb0 : b ≠ 0) (s : (a < 0) ≠ (b < 0)) (q : Nat) (h : q = a.natAbs / b.natAbs) : wrap64 (-((q : Nat) : Int)) = ap 4 a b := by
  rw [ap4, if_neg hb0, tdiv_diff s, h]
set_option maxHeartbeats 2000000 in
theorem quotient_some (a b : Int) (ha : In64 a) (hb : In64 b) (hb0 : Hid (b ≠ 0)) (w : World) :
    Calls Tryz.prog 64 #[.int .i64 a, .int .i64 b] w fun e w' => e = .returned (.int .i64 (ap 4 a b)) ∧ w' = w := by
  have z : (b == 0) = false := eqF hb0.out
  have ma := mag_nat a
  have mb := mag_nat b
  have la : a.natAbs < 18446744073709551616 := by unfold In64 at ha; omega
  have lb : b.natAbs ≤ 9223372036854775808 := by unfold In64 at hb; omega
  have lb0 : 0 < b.natAbs := by have := hb0.out; omega
  have HS : Hid (∀ q : Nat, q = a.natAbs / b.natAbs → ((decide (a < 0) == decide (b < 0)) = true ∧ wrap64 ((q : Nat) : Int) = ap 4 a b) ∨ ((decide (a < 0) == decide (b < 0)) = false ∧ wrap64 (-((q : Nat) : Int)) = ap 4 a b)) := by
    intro q hq
    by_cases s : (a < 0) = (b < 0)
    · exact .inl ⟨by simp [s], quo_same hb0.out s q hq⟩
    · exact .inr ⟨by rw [beq_eq_false_iff_ne]; intro k; exact s (by simpa using k), quo_diff hb0.out s q hq⟩
  generalize a.natAbs = N at *
  generalize b.natAbs = D at *
  have MA : Hid (_ = _) := ma
  have MB : Hid (_ = _) := mb
  clear ma mb
  go_enter Tryz.func64, Tryz.ntmps64
  go_wp2_with (go_at_call 92; refine (size_any _ (by assumption) _).mono ?_; rintro e w' ⟨rfl, rfl⟩)
  rw [MA.out, MB.out]
  go_loop [7, 8, 9] (fun x y i => ∃ (k : Int) (q r : Nat), -1 ≤ k ∧ k ≤ 63 ∧ i = .int .i64 k ∧ x = .int .u64 ((q : Nat) : Int) ∧ y = .int .u64 ((r : Nat) : Int) ∧ r < D ∧ q * D + r = N / 2 ^ (k + 1).toNat) (fun _ _ i => (intOf i + 1).toNat)
  case atStart => exact ⟨63, 0, 0, by omega, by omega, rfl, rfl, rfl, lb0, by rw [show ((63 : Int) + 1).toNat = 64 from rfl, Nat.div_eq_of_lt (show N < 2 ^ 64 from la)]; simp⟩
  case round =>
    obtain ⟨k, q, r, k1, k2, rfl, rfl, rfl, hr, he⟩ := hrel
    by_cases hk : 0 ≤ k
    · obtain ⟨m, rfl⟩ := Int.eq_ofNat_of_zero_le hk
      have e1 : ((m : Int) + 1).toNat = m + 1 := by omega
      rw [e1, Nat.pow_succ, ← Nat.div_div_eq_div_mul] at he
      have hN : (N : Int) / 2 ^ m = ((N / 2 ^ m : Nat) : Int) := by rw [Int.natCast_ediv, Int.natCast_pow]; rfl
      have lX := div_lt64' N m la
      have hq := quo_less _ _ _ _ he hr
      have HB : Hid (_ = _) := quo_big _ _ _ _ he
      have HM : Hid (_ = _) := quo_small _ _ _ _ he
      clear he e1
      have HX : Hid (∀ t : Nat, t = m → N / 2 ^ t = N / 2 ^ m) := fun t e => by rw [e]
      generalize N / 2 ^ m = X at *
      have e2 : Hid (((m : Int) - 1 + 1).toNat = m) := by show _ = _; omega
      by_cases ht : (D : Int) ≤ (r : Int) * 2 + (X : Int) % 2
      · go_wp2
        go_round
        case rel => exact ⟨(m : Int) - 1, q * 2 + 1, r * 2 + X % 2 - D, by omega, by omega, by go_num, valU (by omega), valU (by omega), by omega, by rw [HX.out _ e2.out]; have := HB.out; omega⟩
        case measure => simp [intOf]; try omega
      · go_wp2
        go_round
        case rel => exact ⟨(m : Int) - 1, q * 2, r * 2 + X % 2, by omega, by omega, by go_num, valU (by omega), valU (by omega), by omega, by rw [HX.out _ e2.out]; exact HM.out⟩
        case measure => simp [intOf]; try omega
    · have hk' : k = -1 := by omega
      subst hk'
      have hq := quo_end N D q r (by rw [he]; show N / 1 = N; exact Nat.div_one N) hr
      have lq : q < 18446744073709551616 := by rw [hq]; exact Nat.lt_of_le_of_lt (Nat.div_le_self _ _) la
      rcases HS.out q hq with ⟨t1, t2⟩ | ⟨t1, t2⟩
      all_goals
        have T2 : Hid (_ = _) := t2
        clear t2 hq he
      · go_wp2_with (go_at_call 93; refine (signed_plus _ ⟨by omega, by omega⟩ _).mono ?_; rintro e w' ⟨rfl, rfl⟩)
        go_ret
        exact ⟨ret64 T2.out, rfl⟩
      · go_wp2_with (go_at_call 93; refine (signed_minus _ ⟨by omega, by omega⟩ _).mono ?_; rintro e w' ⟨rfl, rfl⟩)
        go_ret
        exact ⟨ret64 T2.out, rfl⟩
theorem quotient_any (a b : Int) (ha : In64 a) (hb : In64 b) (w : World) :
    Calls Tryz.prog 64 #[.int .i64 a, .int .i64 b] w fun e w' => e = .returned (.int .i64 (ap 4 a b)) ∧ w' = w := by
  by_cases h : b = 0
  · rw [ap4, if_pos h]
    have hb : (b == 0) = true := eqT h
    clear h
    go_enter Tryz.func64, Tryz.ntmps64
    go_wp2
    go_ret
    exact ⟨rfl, rfl⟩
  · exact quotient_some a b ha hb h w
end Go.Proofs.YthchbcfecconbaaGreatDoor

namespace Go.Proofs.YthchbcfecconbaaGreatDoor
open Go.ChangeShapes Go.WideShapes Go.ChangeAt Go.RowKit
theorem place_lt (j : Nat) (h : j < 64) : 2 ^ j < 18446744073709551616 := pow_lt j h
theorem bit_step (n j : Nat) : n % 2 ^ (j + 1) = n % 2 ^ j + n / 2 ^ j % 2 * 2 ^ j := by
  rw [Nat.pow_succ, Nat.mod_mul, Nat.mul_comm (2 ^ j)]
theorem and_place (x y j : Nat) : (x &&& y) / 2 ^ j % 2 = (x / 2 ^ j % 2) * (y / 2 ^ j % 2) := by
  have h := Nat.testBit_and x y j
  rw [Nat.testBit_eq_decide_div_mod_eq, Nat.testBit_eq_decide_div_mod_eq, Nat.testBit_eq_decide_div_mod_eq] at h
  rcases Nat.mod_two_eq_zero_or_one (x / 2 ^ j) with a | a <;> rcases Nat.mod_two_eq_zero_or_one (y / 2 ^ j) with b | b <;> rcases Nat.mod_two_eq_zero_or_one ((x &&& y) / 2 ^ j) with c | c <;> rw [a, b, c] at h <;> rw [a, b, c] <;> simp at h
theorem or_place (x y j : Nat) : (x ||| y) / 2 ^ j % 2 = if x / 2 ^ j % 2 + y / 2 ^ j % 2 = 0 then 0 else 1 := by
  have h := Nat.testBit_or x y j
  rw [Nat.testBit_eq_decide_div_mod_eq, Nat.testBit_eq_decide_div_mod_eq, Nat.testBit_eq_decide_div_mod_eq] at h
  rcases Nat.mod_two_eq_zero_or_one (x / 2 ^ j) with a | a <;> rcases Nat.mod_two_eq_zero_or_one (y / 2 ^ j) with b | b <;> rcases Nat.mod_two_eq_zero_or_one ((x ||| y) / 2 ^ j) with c | c <;> rw [a, b, c] at h <;> rw [a, b, c] <;> simp at h <;> rfl
theorem xor_place (x y j : Nat) : (x ^^^ y) / 2 ^ j % 2 = if x / 2 ^ j % 2 + y / 2 ^ j % 2 = 1 then 1 else 0 := by
  have h := Nat.testBit_xor x y j
  rw [Nat.testBit_eq_decide_div_mod_eq, Nat.testBit_eq_decide_div_mod_eq, Nat.testBit_eq_decide_div_mod_eq] at h
  rcases Nat.mod_two_eq_zero_or_one (x / 2 ^ j) with a | a <;> rcases Nat.mod_two_eq_zero_or_one (y / 2 ^ j) with b | b <;> rcases Nat.mod_two_eq_zero_or_one ((x ^^^ y) / 2 ^ j) with c | c <;> rw [a, b, c] at h <;> rw [a, b, c] <;> simp at h <;> rfl
theorem half_place (x j : Nat) : x / 2 ^ (j + 1) = x / 2 ^ j / 2 := by rw [Nat.pow_succ, Nat.div_div_eq_div_mul]
theorem wrap_uu (a : Int) : IntKind.u64.wrap a = ((u a : Nat) : Int) := by rw [IntKind.wrap_u64]; unfold u; omega
end Go.Proofs.YthchbcfecconbaaGreatDoor

namespace Go.Proofs.YthchbcfecconbaaGreatDoor
open Go.ChangeShapes Go.WideShapes Go.ChangeAt Go.RowKit
theorem place_next (j : Nat) (L : Nat) (e : L = 2 ^ j) : IntKind.u64.wrap ((L : Int) * 2) = ((2 ^ (j + 1) % 18446744073709551616 : Nat) : Int) := by
  rw [IntKind.wrap_u64, e, Nat.pow_succ]
  generalize 2 ^ j = K
  omega
theorem cast_half (P n : Nat) (h : n = P / 2) : (P : Int) / 2 = ((n : Nat) : Int) := by omega
theorem room (j T : Nat) (h : j < 64) (ht : T < 2 ^ j) : T + 2 ^ j < 18446744073709551616 := by
  have : 2 ^ (j + 1) ≤ 2 ^ 64 := Nat.pow_le_pow_right (by decide) (by omega)
  rw [Nat.pow_succ] at this
  have : (2 : Nat) ^ 64 = 18446744073709551616 := rfl
  omega
theorem div_lt64 (x j : Nat) (h : x < 18446744073709551616) : x / 2 ^ j < 18446744073709551616 := Nat.lt_of_le_of_lt (Nat.div_le_self _ _) h
set_option maxHeartbeats 2000000 in
theorem refBits_and (a b : Int) (w : World) :
    Calls Tryz.prog 65 #[.int .i64 6, .int .i64 a, .int .i64 b] w fun e w' => e = .returned (.int .i64 (ap 6 a b)) ∧ w' = w := by
  have ea := wrap_uu a
  have eb := wrap_uu b
  have hl := and_lt a b
  have la := u_lt a
  have lb := u_lt b
  have HF : Hid (wrap64 ((u a &&& u b : Nat) : Int) = ap 6 a b) := by show _ = _; rw [ap6, and_i64]
  generalize u a = U at *
  generalize u b = V at *
  have HR : Hid (∀ j, (U &&& V) / 2 ^ j % 2 = _) := fun j => and_place U V j
  generalize U &&& V = R at *
  go_enter Tryz.func65, Tryz.ntmps65
  go_wp2
  go_loop [7, 8, 9, 10, 11] (fun x y r p i => ∃ j : Nat, j ≤ 64 ∧ i = .int .i64 j ∧ x = .int .u64 ((U / 2 ^ j : Nat) : Int) ∧ y = .int .u64 ((V / 2 ^ j : Nat) : Int) ∧ r = .int .u64 ((R % 2 ^ j : Nat) : Int) ∧ p = .int .u64 ((2 ^ j % 18446744073709551616 : Nat) : Int)) (fun _ _ _ _ i => 64 - (intOf i).toNat)
  case atStart => exact ⟨0, by omega, rfl, valU (by simp), valU (by simp), valU (by simp [Nat.mod_one]), valU (by simp)⟩
  case round =>
    obtain ⟨j, hj, rfl, rfl, rfl, rfl, rfl⟩ := hrel
    by_cases hlt : j < 64
    · have s1 : Hid (_ = _) := bit_step R j
      have s2 : Hid (_ = _) := HR.out j
      have s3 : Hid (_ = _) := half_place U j
      have s4 : Hid (_ = _) := half_place V j
      have s5 : Hid (_ = _) := Nat.mod_eq_of_lt (place_lt j hlt)
      have b1 := div_lt64 U j la
      have b2 := div_lt64 V j lb
      have b3 := Nat.mod_lt R (Nat.two_pow_pos j)
      have b4 := room j _ hlt b3
      have b5 := place_lt j hlt
      have s6 : Hid (∀ L : Nat, L = 2 ^ j → IntKind.u64.wrap ((L : Int) * 2) = ((2 ^ (j + 1) % 18446744073709551616 : Nat) : Int)) := fun L e => place_next j L e
      rw [s5.out]
      generalize hP : U / 2 ^ j = P at *
      generalize hQ : V / 2 ^ j = Q at *
      generalize hT : R % 2 ^ j = T at *
      generalize hL : 2 ^ j = L at *
      have HP : Hid (_ = _) := hP
      have HQ : Hid (_ = _) := hQ
      have HT : Hid (_ = _) := hT
      have HL : Hid (_ = _) := hL
      clear hP hQ hT hL
      rcases Nat.mod_two_eq_zero_or_one P with cp | cp <;> rcases Nat.mod_two_eq_zero_or_one Q with cq | cq
      all_goals
        have CP : Hid (_ = _) := cp
        have CQ : Hid (_ = _) := cq
        have ip : (P : Int) % 2 = ((P % 2 : Nat) : Int) := by omega
        have iq : (Q : Int) % 2 = ((Q % 2 : Nat) : Int) := by omega
        rw [cp] at ip
        rw [cq] at iq
        clear cp cq
        go_wp2
        go_round
        case rel => exact ⟨j + 1, by omega, by go_num, valU (cast_half _ _ s3.out), valU (cast_half _ _ s4.out), valU (by have g1 := s1.out; have g2 := s2.out; rw [CP.out, CQ.out] at g2; rw [g1, g2]; simp), valU (s6.out L rfl)⟩
        case measure => simp [intOf]; omega
    · have : j = 64 := by omega
      subst this
      have e1 : R % 2 ^ 64 = R := Nat.mod_eq_of_lt hl
      rw [e1]
      go_wp2
      go_ret
      exact ⟨ret64 HF.out, rfl⟩
set_option maxHeartbeats 2000000 in
theorem refBits_or (a b : Int) (w : World) :
    Calls Tryz.prog 65 #[.int .i64 7, .int .i64 a, .int .i64 b] w fun e w' => e = .returned (.int .i64 (ap 7 a b)) ∧ w' = w := by
  have ea := wrap_uu a
  have eb := wrap_uu b
  have hl := or_lt a b
  have la := u_lt a
  have lb := u_lt b
  have HF : Hid (wrap64 ((u a ||| u b : Nat) : Int) = ap 7 a b) := by show _ = _; rw [ap7, or_i64]
  generalize u a = U at *
  generalize u b = V at *
  have HR : Hid (∀ j, (U ||| V) / 2 ^ j % 2 = _) := fun j => or_place U V j
  generalize U ||| V = R at *
  go_enter Tryz.func65, Tryz.ntmps65
  go_wp2
  go_loop [7, 8, 9, 10, 11] (fun x y r p i => ∃ j : Nat, j ≤ 64 ∧ i = .int .i64 j ∧ x = .int .u64 ((U / 2 ^ j : Nat) : Int) ∧ y = .int .u64 ((V / 2 ^ j : Nat) : Int) ∧ r = .int .u64 ((R % 2 ^ j : Nat) : Int) ∧ p = .int .u64 ((2 ^ j % 18446744073709551616 : Nat) : Int)) (fun _ _ _ _ i => 64 - (intOf i).toNat)
  case atStart => exact ⟨0, by omega, rfl, valU (by simp), valU (by simp), valU (by simp [Nat.mod_one]), valU (by simp)⟩
  case round =>
    obtain ⟨j, hj, rfl, rfl, rfl, rfl, rfl⟩ := hrel
    by_cases hlt : j < 64
    · have s1 : Hid (_ = _) := bit_step R j
      have s2 : Hid (_ = _) := HR.out j
      have s3 : Hid (_ = _) := half_place U j
      have s4 : Hid (_ = _) := half_place V j
      have s5 : Hid (_ = _) := Nat.mod_eq_of_lt (place_lt j hlt)
      have b1 := div_lt64 U j la
      have b2 := div_lt64 V j lb
      have b3 := Nat.mod_lt R (Nat.two_pow_pos j)
      have b4 := room j _ hlt b3
      have b5 := place_lt j hlt
      have s6 : Hid (∀ L : Nat, L = 2 ^ j → IntKind.u64.wrap ((L : Int) * 2) = ((2 ^ (j + 1) % 18446744073709551616 : Nat) : Int)) := fun L e => place_next j L e
      rw [s5.out]
      generalize hP : U / 2 ^ j = P at *
      generalize hQ : V / 2 ^ j = Q at *
      generalize hT : R % 2 ^ j = T at *
      generalize hL : 2 ^ j = L at *
      have HP : Hid (_ = _) := hP
      have HQ : Hid (_ = _) := hQ
      have HT : Hid (_ = _) := hT
      have HL : Hid (_ = _) := hL
      clear hP hQ hT hL
      rcases Nat.mod_two_eq_zero_or_one P with cp | cp <;> rcases Nat.mod_two_eq_zero_or_one Q with cq | cq
      all_goals
        have CP : Hid (_ = _) := cp
        have CQ : Hid (_ = _) := cq
        have ip : (P : Int) % 2 = ((P % 2 : Nat) : Int) := by omega
        have iq : (Q : Int) % 2 = ((Q % 2 : Nat) : Int) := by omega
        rw [cp] at ip
        rw [cq] at iq
        clear cp cq
        go_wp2
        go_round
        case rel => exact ⟨j + 1, by omega, by go_num, valU (cast_half _ _ s3.out), valU (cast_half _ _ s4.out), valU (by have g1 := s1.out; have g2 := s2.out; rw [CP.out, CQ.out] at g2; rw [g1, g2]; simp), valU (s6.out L rfl)⟩
        case measure => simp [intOf]; omega
    · have : j = 64 := by omega
      subst this
      have e1 : R % 2 ^ 64 = R := Nat.mod_eq_of_lt hl
      rw [e1]
      go_wp2
      go_ret
      exact ⟨ret64 HF.out, rfl⟩
set_option maxHeartbeats 2000000 in
theorem refBits_xor (a b : Int) (w : World) :
    Calls Tryz.prog 65 #[.int .i64 8, .int .i64 a, .int .i64 b] w fun e w' => e = .returned (.int .i64 (ap 8 a b)) ∧ w' = w := by
  have ea := wrap_uu a
  have eb := wrap_uu b
  have hl := xor_lt a b
  have la := u_lt a
  have lb := u_lt b
  have HF : Hid (wrap64 ((u a ^^^ u b : Nat) : Int) = ap 8 a b) := by show _ = _; rw [ap8, xor_i64]
  generalize u a = U at *
  generalize u b = V at *
  have HR : Hid (∀ j, (U ^^^ V) / 2 ^ j % 2 = _) := fun j => xor_place U V j
  generalize U ^^^ V = R at *
  go_enter Tryz.func65, Tryz.ntmps65
  go_wp2
  go_loop [7, 8, 9, 10, 11] (fun x y r p i => ∃ j : Nat, j ≤ 64 ∧ i = .int .i64 j ∧ x = .int .u64 ((U / 2 ^ j : Nat) : Int) ∧ y = .int .u64 ((V / 2 ^ j : Nat) : Int) ∧ r = .int .u64 ((R % 2 ^ j : Nat) : Int) ∧ p = .int .u64 ((2 ^ j % 18446744073709551616 : Nat) : Int)) (fun _ _ _ _ i => 64 - (intOf i).toNat)
  case atStart => exact ⟨0, by omega, rfl, valU (by simp), valU (by simp), valU (by simp [Nat.mod_one]), valU (by simp)⟩
  case round =>
    obtain ⟨j, hj, rfl, rfl, rfl, rfl, rfl⟩ := hrel
    by_cases hlt : j < 64
    · have s1 : Hid (_ = _) := bit_step R j
      have s2 : Hid (_ = _) := HR.out j
      have s3 : Hid (_ = _) := half_place U j
      have s4 : Hid (_ = _) := half_place V j
      have s5 : Hid (_ = _) := Nat.mod_eq_of_lt (place_lt j hlt)
      have b1 := div_lt64 U j la
      have b2 := div_lt64 V j lb
      have b3 := Nat.mod_lt R (Nat.two_pow_pos j)
      have b4 := room j _ hlt b3
      have b5 := place_lt j hlt
      have s6 : Hid (∀ L : Nat, L = 2 ^ j → IntKind.u64.wrap ((L : Int) * 2) = ((2 ^ (j + 1) % 18446744073709551616 : Nat) : Int)) := fun L e => place_next j L e
      rw [s5.out]
      generalize hP : U / 2 ^ j = P at *
      generalize hQ : V / 2 ^ j = Q at *
      generalize hT : R % 2 ^ j = T at *
      generalize hL : 2 ^ j = L at *
      have HP : Hid (_ = _) := hP
      have HQ : Hid (_ = _) := hQ
      have HT : Hid (_ = _) := hT
      have HL : Hid (_ = _) := hL
      clear hP hQ hT hL
      rcases Nat.mod_two_eq_zero_or_one P with cp | cp <;> rcases Nat.mod_two_eq_zero_or_one Q with cq | cq
      all_goals
        have CP : Hid (_ = _) := cp
        have CQ : Hid (_ = _) := cq
        have ip : (P : Int) % 2 = ((P % 2 : Nat) : Int) := by omega
        have iq : (Q : Int) % 2 = ((Q % 2 : Nat) : Int) := by omega
        rw [cp] at ip
        rw [cq] at iq
        clear cp cq
        go_wp2
        go_round
        case rel => exact ⟨j + 1, by omega, by go_num, valU (cast_half _ _ s3.out), valU (cast_half _ _ s4.out), valU (by have g1 := s1.out; have g2 := s2.out; rw [CP.out, CQ.out] at g2; rw [g1, g2]; simp), valU (s6.out L rfl)⟩
        case measure => simp [intOf]; omega
    · have : j = 64 := by omega
      subst this
      have e1 : R % 2 ^ 64 = R := Nat.mod_eq_of_lt hl
      rw [e1]
      go_wp2
      go_ret
      exact ⟨ret64 HF.out, rfl⟩
end Go.Proofs.YthchbcfecconbaaGreatDoor

namespace Go.Proofs.YthchbcfecconbaaGreatDoor
open Go.ChangeShapes Go.WideShapes Go.ChangeAt Go.RowKit
def ae (op : Int) : Int := if 1 ≤ op ∧ op ≤ 12 then 0 else 10
theorem rem_in (a b : Int) (h : In64 a) : In64 (ap 5 a b) := by
  by_cases hb : b = 0
  · rw [ap5, if_pos hb]; exact h
  · have h1 : (ap 5 a b).natAbs ≤ a.natAbs := by rw [ap5, if_neg hb, Int.natAbs_tmod]; exact Nat.mod_le _ _
    have h2 := rem_pos a b hb
    have h3 := rem_neg a b hb
    unfold In64 at *
    by_cases g : 0 ≤ a
    · have := h2 g; omega
    · have := h3 (by omega); omega
theorem ref_rem (a b : Int) (h : In64 a) : wrap64 (a - wrap64 (ap 4 a b * b)) = ap 5 a b := by
  have hb := div_back a b h
  rw [ap1, ap3] at hb
  obtain ⟨t, ht⟩ := wrap_ex (wrap64 (ap 4 a b * b) + ap 5 a b)
  rw [ht] at hb
  rw [show a - wrap64 (ap 4 a b * b) = ap 5 a b + t * 18446744073709551616 by omega, wrap_shift, wrap_id (rem_in a b h)]
theorem ap_bad (op a b : Int) (h : op < 1 ∨ 12 < op) : ap op a b = 0 := by
  unfold ap
  rw [if_neg (by omega), if_neg (by omega), if_neg (by omega), if_neg (by omega), if_neg (by omega), if_neg (by omega), if_neg (by omega), if_neg (by omega), if_neg (by omega), if_neg (by omega), if_neg (by omega), if_neg (by omega)]
theorem ap11' (a b : Int) : ap 11 a b = if a < b then a else b := by rw [ap11]; split <;> split <;> omega
theorem ap12' (a b : Int) : ap 12 a b = if b < a then a else b := by rw [ap12]; split <;> split <;> omega
theorem refApply1 (a b : Int) (_ha : In64 a) (_hb : In64 b) (w : World) :
    Calls Tryz.prog 39 #[.int .i64 1, .int .i64 a, .int .i64 b] w fun e w' => e = .returned (.tuple #[.int .i64 (ap 1 a b), .int .i64 0]) ∧ w' = w := by
  go_enter Tryz.func39, Tryz.ntmps39
  go_wp2
  go_ret2
  exact ⟨rfl, rfl⟩
theorem refApply2 (a b : Int) (_ha : In64 a) (_hb : In64 b) (w : World) :
    Calls Tryz.prog 39 #[.int .i64 2, .int .i64 a, .int .i64 b] w fun e w' => e = .returned (.tuple #[.int .i64 (ap 2 a b), .int .i64 0]) ∧ w' = w := by
  go_enter Tryz.func39, Tryz.ntmps39
  go_wp2
  go_ret2
  exact ⟨rfl, rfl⟩
theorem refApply3 (a b : Int) (_ha : In64 a) (_hb : In64 b) (w : World) :
    Calls Tryz.prog 39 #[.int .i64 3, .int .i64 a, .int .i64 b] w fun e w' => e = .returned (.tuple #[.int .i64 (ap 3 a b), .int .i64 0]) ∧ w' = w := by
  go_enter Tryz.func39, Tryz.ntmps39
  go_wp2
  go_ret2
  exact ⟨rfl, rfl⟩
theorem refApply4 (a b : Int) (ha : In64 a) (hb : In64 b) (w : World) :
    Calls Tryz.prog 39 #[.int .i64 4, .int .i64 a, .int .i64 b] w fun e w' => e = .returned (.tuple #[.int .i64 (ap 4 a b), .int .i64 0]) ∧ w' = w := by
  go_enter Tryz.func39, Tryz.ntmps39
  go_wp2_with (go_at_call 64; refine (quotient_any _ _ (by assumption) (by assumption) _).mono ?_; rintro e w' ⟨rfl, rfl⟩)
  go_ret2
  exact ⟨rfl, rfl⟩
theorem refApply5 (a b : Int) (ha : In64 a) (hb : In64 b) (w : World) :
    Calls Tryz.prog 39 #[.int .i64 5, .int .i64 a, .int .i64 b] w fun e w' => e = .returned (.tuple #[.int .i64 (ap 5 a b), .int .i64 0]) ∧ w' = w := by
  have HR : Hid (_ = _) := ref_rem a b ha
  go_enter Tryz.func39, Tryz.ntmps39
  go_wp2_with (go_at_call 64; refine (quotient_any _ _ (by assumption) (by assumption) _).mono ?_; rintro e w' ⟨rfl, rfl⟩)
  go_ret2
  exact ⟨congrArg (fun n => Ending.returned (.tuple #[.int .i64 n, .int .i64 0])) HR.out, rfl⟩
theorem refApply6 (a b : Int) (_ha : In64 a) (_hb : In64 b) (w : World) :
    Calls Tryz.prog 39 #[.int .i64 6, .int .i64 a, .int .i64 b] w fun e w' => e = .returned (.tuple #[.int .i64 (ap 6 a b), .int .i64 0]) ∧ w' = w := by
  go_enter Tryz.func39, Tryz.ntmps39
  go_wp2_with (go_at_call 65; refine (refBits_and _ _ _).mono ?_; rintro e w' ⟨rfl, rfl⟩)
  go_ret2
  exact ⟨rfl, rfl⟩
theorem refApply7 (a b : Int) (_ha : In64 a) (_hb : In64 b) (w : World) :
    Calls Tryz.prog 39 #[.int .i64 7, .int .i64 a, .int .i64 b] w fun e w' => e = .returned (.tuple #[.int .i64 (ap 7 a b), .int .i64 0]) ∧ w' = w := by
  go_enter Tryz.func39, Tryz.ntmps39
  go_wp2_with (go_at_call 65; refine (refBits_or _ _ _).mono ?_; rintro e w' ⟨rfl, rfl⟩)
  go_ret2
  exact ⟨rfl, rfl⟩
theorem refApply8 (a b : Int) (_ha : In64 a) (_hb : In64 b) (w : World) :
    Calls Tryz.prog 39 #[.int .i64 8, .int .i64 a, .int .i64 b] w fun e w' => e = .returned (.tuple #[.int .i64 (ap 8 a b), .int .i64 0]) ∧ w' = w := by
  go_enter Tryz.func39, Tryz.ntmps39
  go_wp2_with (go_at_call 65; refine (refBits_xor _ _ _).mono ?_; rintro e w' ⟨rfl, rfl⟩)
  go_ret2
  exact ⟨rfl, rfl⟩
theorem refApply9 (a b : Int) (ha : In64 a) (_hb : In64 b) (w : World) :
    Calls Tryz.prog 39 #[.int .i64 9, .int .i64 a, .int .i64 b] w fun e w' => e = .returned (.tuple #[.int .i64 (ap 9 a b), .int .i64 0]) ∧ w' = w := by
  go_enter Tryz.func39, Tryz.ntmps39
  go_wp2_with (go_at_call 66; refine (shifted_shl _ _ (by assumption) _).mono ?_; rintro e w' ⟨rfl, rfl⟩)
  go_ret2
  exact ⟨rfl, rfl⟩
theorem refApply10 (a b : Int) (ha : In64 a) (_hb : In64 b) (w : World) :
    Calls Tryz.prog 39 #[.int .i64 10, .int .i64 a, .int .i64 b] w fun e w' => e = .returned (.tuple #[.int .i64 (ap 10 a b), .int .i64 0]) ∧ w' = w := by
  go_enter Tryz.func39, Tryz.ntmps39
  go_wp2_with (go_at_call 66; refine (shifted_shr _ _ (by assumption) _).mono ?_; rintro e w' ⟨rfl, rfl⟩)
  go_ret2
  exact ⟨rfl, rfl⟩
theorem refApply11 (a b : Int) (_ha : In64 a) (_hb : In64 b) (w : World) :
    Calls Tryz.prog 39 #[.int .i64 11, .int .i64 a, .int .i64 b] w fun e w' => e = .returned (.tuple #[.int .i64 (ap 11 a b), .int .i64 0]) ∧ w' = w := by
  rw [ap11']
  by_cases h : a < b
  · rw [if_pos h]
    go_enter Tryz.func39, Tryz.ntmps39
    go_wp2
    go_ret2
    exact ⟨rfl, rfl⟩
  · rw [if_neg h]
    go_enter Tryz.func39, Tryz.ntmps39
    go_wp2
    go_ret2
    exact ⟨rfl, rfl⟩
theorem refApply12 (a b : Int) (_ha : In64 a) (_hb : In64 b) (w : World) :
    Calls Tryz.prog 39 #[.int .i64 12, .int .i64 a, .int .i64 b] w fun e w' => e = .returned (.tuple #[.int .i64 (ap 12 a b), .int .i64 0]) ∧ w' = w := by
  rw [ap12']
  by_cases h : b < a
  · rw [if_pos h]
    go_enter Tryz.func39, Tryz.ntmps39
    go_wp2
    go_ret2
    exact ⟨rfl, rfl⟩
  · rw [if_neg h]
    go_enter Tryz.func39, Tryz.ntmps39
    go_wp2
    go_ret2
    exact ⟨rfl, rfl⟩
theorem refApply_bad (op a b : Int) (h : op < 1 ∨ 12 < op) (w : World) :
    Calls Tryz.prog 39 #[.int .i64 op, .int .i64 a, .int .i64 b] w fun e w' => e = .returned (.tuple #[.int .i64 0, .int .i64 10]) ∧ w' = w := by
  have k1 : (op == 1) = false := by simp; omega
  have k2 : (op == 2) = false := by simp; omega
  have k3 : (op == 3) = false := by simp; omega
  have k4 : (op == 4) = false := by simp; omega
  have k5 : (op == 5) = false := by simp; omega
  have k6 : (op == 6) = false := by simp; omega
  have k7 : (op == 7) = false := by simp; omega
  have k8 : (op == 8) = false := by simp; omega
  have k9 : (op == 9) = false := by simp; omega
  have k10 : (op == 10) = false := by simp; omega
  have k11 : (op == 11) = false := by simp; omega
  have k12 : (op == 12) = false := by simp; omega
  clear h
  go_enter Tryz.func39, Tryz.ntmps39
  go_wp2
  go_ret2
  exact ⟨rfl, rfl⟩
theorem refApply_any (op a b : Int) (ha : In64 a) (hb : In64 b) (w : World) :
    Calls Tryz.prog 39 #[.int .i64 op, .int .i64 a, .int .i64 b] w fun e w' => e = .returned (.tuple #[.int .i64 (ap op a b), .int .i64 (ae op)]) ∧ w' = w := by
  by_cases h : 1 ≤ op ∧ op ≤ 12
  · rw [show ae op = 0 from if_pos h]
    have h12 : op = 1 ∨ op = 2 ∨ op = 3 ∨ op = 4 ∨ op = 5 ∨ op = 6 ∨ op = 7 ∨ op = 8 ∨ op = 9 ∨ op = 10 ∨ op = 11 ∨ op = 12 := by omega
    rcases h12 with h | h | h | h | h | h | h | h | h | h | h | h <;> subst h
    · exact refApply1 a b ha hb w
    · exact refApply2 a b ha hb w
    · exact refApply3 a b ha hb w
    · exact refApply4 a b ha hb w
    · exact refApply5 a b ha hb w
    · exact refApply6 a b ha hb w
    · exact refApply7 a b ha hb w
    · exact refApply8 a b ha hb w
    · exact refApply9 a b ha hb w
    · exact refApply10 a b ha hb w
    · exact refApply11 a b ha hb w
    · exact refApply12 a b ha hb w
  · rw [show ae op = 10 from if_neg h, ap_bad op a b (by omega)]
    exact refApply_bad op a b (by omega) w
end Go.Proofs.YthchbcfecconbaaGreatDoor

namespace Go.Proofs.YthchbcfecconbaaGreatDoor
open Go.ChangeShapes Go.WideShapes Go.ChangeAt Go.RowKit
theorem refHolds_any (rel a b : Int) (w : World) :
    Calls Tryz.prog 40 #[.int .i64 rel, .int .i64 a, .int .i64 b] w fun e w' => e = .returned (.tuple #[.bool (hl rel a b), .int .i64 (he rel)]) ∧ w' = w := by
  by_cases h1 : rel = 1
  · subst h1
    go_enter Tryz.func40, Tryz.ntmps40
    go_wp2
    go_ret2
    exact ⟨rfl, rfl⟩
  by_cases h2 : rel = 2
  · subst h2
    go_enter Tryz.func40, Tryz.ntmps40
    go_wp2
    go_ret2
    exact ⟨rfl, rfl⟩
  by_cases h3 : rel = 3
  · subst h3
    go_enter Tryz.func40, Tryz.ntmps40
    go_wp2
    go_ret2
    exact ⟨rfl, rfl⟩
  by_cases h4 : rel = 4
  · subst h4
    go_enter Tryz.func40, Tryz.ntmps40
    go_wp2
    go_ret2
    exact ⟨rfl, rfl⟩
  by_cases h5 : rel = 5
  · subst h5
    go_enter Tryz.func40, Tryz.ntmps40
    go_wp2
    go_ret2
    exact ⟨rfl, rfl⟩
  by_cases h6 : rel = 6
  · subst h6
    go_enter Tryz.func40, Tryz.ntmps40
    go_wp2
    go_ret2
    exact ⟨rfl, rfl⟩
  have e1 : hl rel a b = false := by unfold hl; rw [if_neg h1, if_neg h2, if_neg h3, if_neg h4, if_neg h5, if_neg h6]
  have e2 : he rel = 11 := by unfold he; rw [if_neg (by omega)]
  rw [e1, e2]
  clear e1 e2
  have k1 : (rel == 1) = false := by simp [h1]
  have k2 : (rel == 2) = false := by simp [h2]
  have k3 : (rel == 3) = false := by simp [h3]
  have k4 : (rel == 4) = false := by simp [h4]
  have k5 : (rel == 5) = false := by simp [h5]
  have k6 : (rel == 6) = false := by simp [h6]
  clear h1 h2 h3 h4 h5 h6
  go_enter Tryz.func40, Tryz.ntmps40
  go_wp2
  go_ret2
  exact ⟨rfl, rfl⟩
end Go.Proofs.YthchbcfecconbaaGreatDoor

namespace Go.Proofs.YthchbcfecconbaaGreatDoor
open Go.RowKit
def Ds.tick (d : Ds) : Ds := { d with cnt := d.cnt + 1 }
def Ds.ins (d : Ds) (os : List Int) (gs : List (Bool × Int)) (q : Ins) : Ds :=
  if q.code ≤ 4 then d.tch os gs q
  else if q.code = 5 then (d.setReg q.dst.toNat (d.sv q.xR q.xN)).inc
  else if q.code = 6 then (d.setReg q.dst.toNat (ap q.op (d.sv q.xR q.xN) (d.sv q.yR q.yN))).inc
  else if q.code = 7 then (if hl q.rel (d.sv q.xR q.xN) (d.sv q.yR q.yN) = true then { d.inc with pl := q.to } else d.inc)
  else if q.code = 8 then { d with pl := q.to }
  else if q.code = 9 then { d with oc := 2 }
  else { d with oc := 1, rs := d.sv q.xR q.xN }
def Ds.stp (d : Ds) (l : List Ins) (os : List Int) (gs : List (Bool × Int)) : Ds := if (l.length : Int) ≤ d.pl then { d.tick with oc := 1 } else d.tick.ins os gs (l.getD d.pl.toNat ins0)
theorem iInD : (Tryz.prog.info? 62).map (·.size) = some 11 := by kernel_rfl
theorem run_insD {W : World} {b o : Nat} {q : Ins} (hc : ∀ j v, q.cells[j]? = some v → W.cell? ⟨b, o + j, none⟩ = some v) : (loadVar 62 ⟨b, o, none⟩).run Tryz.prog W = .ok (.agg q.cells.toArray) W :=
  run_loadVar_mid W b o 62 q.cells _ hc Tryz.underlying62 rfl (by rw [iInD]; rfl)
set_option maxHeartbeats 1000000 in
set_option maxRecDepth 100000 in
theorem does_end {w : World} {B : Nat} {d : Ds} {vo vh : Value} (h : DM w B d vo vh) {a0 a ag : Option Addr} {c0 cap cg : Nat} {l : List Ins} {os : List Int} {gs : List (Bool × Int)} (hl : ISL w a0 l) (hO : NUM w a os) (hOB : ∀ b off, a = some ⟨b, off, none⟩ → b < B) (hG : GVN w ag gs) (hGB : ∀ b off, ag = some ⟨b, off, none⟩ → b < B) (hn : os.length ≤ 16 ∧ gs.length ≤ 4096 ∧ d.own.length ≤ 100000 ∧ d.held.length ≤ 100000 ∧ d.rd ≤ 100000) (hp : 0 ≤ d.pl ∧ d.pl ≤ 64) (hcn : 0 ≤ d.cnt ∧ d.cnt ≤ 100000) (h64 : l.length ≤ 64) (he : (l.length : Int) ≤ d.pl) : Calls Tryz.prog 25 #[.pointer (some ⟨B, 0, none⟩), .slice a0 l.length c0, .slice a os.length cap, .slice ag gs.length cg] w fun e w' => ∃ vo' vh', e = .returned (.tuple #[]) ∧ DM w' B ({ d.tick with oc := 1 }) vo' vh' ∧ Keeps (fun k => B ≤ k) w w' := by
  have v20 : IntKind.i64.wrap (d.cnt + 1) = d.cnt + 1 := by rw [IntKind.wrap_i64]; omega
  have p20 := h.k
  have HT : Hid (_ ∧ _) := h.tk (o := 20) (by omega)
  have HH : Hid (DM w B d vo vh) := h
  clear h
  have b1 : decide ((l.length : Int) ≤ d.pl) = true := decide_eq_true he
  have _u := And.intro hl (And.intro hO (And.intro hOB (And.intro hG (And.intro hGB (And.intro hn (And.intro hp (And.intro hcn h64)))))))
  clear _u hl hO hOB hG hGB hn
  generalize l.length = N0 at *
  generalize os.length = N3 at *
  generalize gs.length = N4 at *
  go_enter Tryz.func25, Tryz.ntmps25
  go_wp2_with (first | (refine wpList_st_int rfl rfl _ _ _ rfl (by decide) B 20 rfl _ rfl HT.out ?_; intro w1 e1; have HD1 : Hid (DM w1 B d.tick vo vh) := (by show DM _ _ _ _ _; rw [e1]; exact HH.out.setK (d.cnt + 1)); have HK1 : Hid (Keeps (fun k => k = B) w w1) := (by show Keeps _ _ _; rw [e1]; exact (Keeps.refl (fun k => k = B) w).setCell (p := ⟨B, 20, none⟩) (fun _ => rfl) _); clear e1; have p19 : w1.cell? ⟨B, 19, none⟩ = some (.int .i64 d.pl) := HD1.out.p; have HT2 : Hid (_ ∧ _) := HD1.out.tk (o := 21) (by omega)) | (refine wpList_st_int rfl rfl _ _ _ rfl (by decide) B 21 rfl _ rfl HT2.out ?_; intro w2 e2; have HE : Hid (_ = _) := e2; clear e2))
  exact bodyPost_ret (v := .tuple #[]) (results_none rfl _ _ _) rfl ⟨vo, vh, rfl, by rw [HE.out]; exact HD1.out.setC 1, by rw [HE.out]; exact (HK1.out.mono (fun i _ e => by have e : i = B := e; show B ≤ i; omega)).setCell (p := ⟨B, 21, none⟩) (fun _ => (by show B ≤ B; exact Nat.le_refl _)) _⟩
set_option maxHeartbeats 1000000 in
set_option maxRecDepth 100000 in
theorem does_9 {w : World} {B : Nat} {d : Ds} {vo vh : Value} (h : DM w B d vo vh) {a0 a ag : Option Addr} {c0 cap cg : Nat} {l : List Ins} {os : List Int} {gs : List (Bool × Int)} (hl : ISL w a0 l) (hlB : ∀ b off, a0 = some ⟨b, off, none⟩ → b < B) (hO : NUM w a os) (hOB : ∀ b off, a = some ⟨b, off, none⟩ → b < B) (hG : GVN w ag gs) (hGB : ∀ b off, ag = some ⟨b, off, none⟩ → b < B) (hn : os.length ≤ 16 ∧ gs.length ≤ 4096 ∧ d.own.length ≤ 100000 ∧ d.held.length ≤ 100000 ∧ d.rd ≤ 100000) (hp : 0 ≤ d.pl ∧ d.pl ≤ 64) (hcn : 0 ≤ d.cnt ∧ d.cnt ≤ 100000) (h64 : l.length ≤ 64) (he : ¬ (l.length : Int) ≤ d.pl) (q : Ins) (hq : l.getD d.pl.toNat ins0 = q) (hc9 : q.code = 9) : Calls Tryz.prog 25 #[.pointer (some ⟨B, 0, none⟩), .slice a0 l.length c0, .slice a os.length cap, .slice ag gs.length cg] w fun e w' => ∃ vo' vh', e = .returned (.tuple #[]) ∧ DM w' B ({ d.tick with oc := 2 }) vo' vh' ∧ Keeps (fun k => B ≤ k) w w' := by
  have v20 : IntKind.i64.wrap (d.cnt + 1) = d.cnt + 1 := by rw [IntKind.wrap_i64]; omega
  have p20 := h.k
  have HT : Hid (_ ∧ _) := h.tk (o := 20) (by omega)
  have HH : Hid (DM w B d vo vh) := h
  clear h
  obtain ⟨p, HPe⟩ : ∃ p : Nat, d.pl = (p : Int) := ⟨d.pl.toNat, by omega⟩
  have hpl : p < l.length := by omega
  have i1 : (0 : Int) ≤ (p : Int) := by omega
  have i2 : (p : Int) < (l.length : Int) := by omega
  have b1 : decide ((l.length : Int) ≤ (p : Int)) = false := decide_eq_false (by omega)
  have b2 : decide (l.length ≤ p) = false := decide_eq_false (by omega)
  have HP : Hid (d.pl = (p : Int)) := HPe
  obtain ⟨b, off, rfl, hc⟩ := hl p hpl
  have HBB : Hid (¬ b = B) := fun e => by have := hlB b off rfl; omega
  have eq' : l.getD d.pl.toNat ins0 = l.getD p ins0 := by rw [HPe, Int.toNat_natCast]
  rw [eq'] at hq
  rw [hq] at hc
  have hOC := all_oneCell_ins q
  clear eq' HPe hl hq hpl
  have _u := And.intro hO (And.intro hOB (And.intro hG (And.intro hGB (And.intro hn (And.intro hp (And.intro hcn h64))))))
  clear _u
  clear hO hG hOB hGB hn hlB
  generalize l.length = N0 at *
  generalize os.length = N3 at *
  generalize gs.length = N4 at *
  go_enter Tryz.func25, Tryz.ntmps25
  go_wp2_with (first | (refine wpList_st_int rfl rfl _ _ _ rfl (by decide) B 20 rfl _ rfl HT.out ?_; intro w1 e1; have HD1 : Hid (DM w1 B d.tick vo vh) := (by show DM _ _ _ _ _; rw [e1]; exact HH.out.setK (d.cnt + 1)); have HK1 : Hid (Keeps (fun k => k = B) w w1) := (by show Keeps _ _ _; rw [e1]; exact (Keeps.refl (fun k => k = B) w).setCell (p := ⟨B, 20, none⟩) (fun _ => rfl) _); clear e1; have p19 : w1.cell? ⟨B, 19, none⟩ = some (.int .i64 d.pl) := HD1.out.p; obtain ⟨W4, hW4⟩ : ∃ W4, W4 = w1.alloc (.cells #[.int .i64 0, .int .i64 0, .bool false, .int .i64 0, .bool false, .int .i64 0, .bool false, .int .i64 0, .int .i64 0, .int .i64 0, .int .i64 0] 62) := ⟨_, rfl⟩; have k4 : Keeps (fun _ => False) w1 W4 := (by rw [hW4]; exact (Keeps.refl _ w1).alloc _); have hU4 : CL W4 w1.heap.size ins0.cells := (by rw [hW4]; exact CL.made w1 ins0.cells _); have HW4 : Hid (W4 = w1.alloc (.cells #[.int .i64 0, .int .i64 0, .bool false, .int .i64 0, .bool false, .int .i64 0, .bool false, .int .i64 0, .int .i64 0, .int .i64 0, .int .i64 0] 62)) := hW4; clear hW4; have hR := run_insD (W := w1) (fun j v e => HK1.out.cell (hc j v e) HBB.out); replace p19 : w1.cell? ⟨B, 19, none⟩ = some (.int .i64 (p : Int)) := (by rw [p19, HP.out])) | (refine wpList_load_run rfl 62 _ rfl ⟨b, off + p * 11, none⟩ rfl _ hR ?_; clear hR) | (rw [← HW4.out]; clear HW4; refine wpList_store_cl rfl 62 _ _ rfl w1.heap.size 0 11 _ rfl rfl rfl hU4 (by show 11 ≤ 11; decide) iInD hOC ?_; intro w3 hc3 k3 hsz3; clear hsz3; have hI3 : CL w3 w1.heap.size q.cells := hc3; clear hc3; have K3 : Keeps (fun _ => False) w1 w3 := k4.trans' k3 (fun _ _ e => e) (fun i hi e => (by have e : i = w1.heap.size := e; omega)); have HD3 : Hid (DM w3 B d.tick vo vh) := HD1.out.new K3; have x4 := hI3.c 4 _ rfl; have x5 := hI3.c 5 _ rfl; have hsx := dsource_any HD3.out q.xR q.xN) | (go_at_call 37; refine hsx.mono ?_; clear hsx; rintro e w4 ⟨rfl, k4x⟩; have hI4 := hI3.keep (by show 0 < 11; decide) k4x (fun e => e); have x6 := hI4.c 6 _ rfl; have x7 := hI4.c 7 _ rfl; have hsy := dsource_any (HD3.out.new k4x) q.yR q.yN) | (go_at_call 37; refine hsy.mono ?_; clear hsy; rintro e w5 ⟨rfl, k5⟩; have hI5 := hI4.keep (by show 0 < 11; decide) k5 (fun e => e); have HD5 : Hid (DM w5 B d.tick vo vh) := (HD3.out.new k4x).new k5; have HK5 : Hid (Keeps (fun k => k = B) w w5) := HK1.out.trans (((K3.trans k4x).trans k5).mono (fun _ _ e => e.elim)); have y0 := hI5.c 0 _ rfl; rw [hc9] at y0; have HT5 : Hid (_ ∧ _) := HD5.out.tk (o := 21) (by omega)) | (refine wpList_st_int rfl rfl _ _ _ rfl (by decide) B 21 rfl _ rfl HT5.out ?_; intro w9 e9; have HE : Hid (_ = _) := e9; clear e9))
  go_end0
  exact ⟨vo, vh, rfl, by rw [HE.out]; exact HD5.out.setC 2, by rw [HE.out]; exact (HK5.out.mono (fun i _ e => by have e : i = B := e; show B ≤ i; omega)).setCell (p := ⟨B, 21, none⟩) (fun _ => (by show B ≤ B; exact Nat.le_refl _)) _⟩
set_option maxHeartbeats 1000000 in
set_option maxRecDepth 100000 in
theorem does_8 {w : World} {B : Nat} {d : Ds} {vo vh : Value} (h : DM w B d vo vh) {a0 a ag : Option Addr} {c0 cap cg : Nat} {l : List Ins} {os : List Int} {gs : List (Bool × Int)} (hl : ISL w a0 l) (hlB : ∀ b off, a0 = some ⟨b, off, none⟩ → b < B) (hO : NUM w a os) (hOB : ∀ b off, a = some ⟨b, off, none⟩ → b < B) (hG : GVN w ag gs) (hGB : ∀ b off, ag = some ⟨b, off, none⟩ → b < B) (hn : os.length ≤ 16 ∧ gs.length ≤ 4096 ∧ d.own.length ≤ 100000 ∧ d.held.length ≤ 100000 ∧ d.rd ≤ 100000) (hp : 0 ≤ d.pl ∧ d.pl ≤ 64) (hcn : 0 ≤ d.cnt ∧ d.cnt ≤ 100000) (h64 : l.length ≤ 64) (he : ¬ (l.length : Int) ≤ d.pl) (q : Ins) (hq : l.getD d.pl.toNat ins0 = q) (hc8 : q.code = 8) : Calls Tryz.prog 25 #[.pointer (some ⟨B, 0, none⟩), .slice a0 l.length c0, .slice a os.length cap, .slice ag gs.length cg] w fun e w' => ∃ vo' vh', e = .returned (.tuple #[]) ∧ DM w' B ({ d.tick with pl := q.to }) vo' vh' ∧ Keeps (fun k => B ≤ k) w w' := by
  have v20 : IntKind.i64.wrap (d.cnt + 1) = d.cnt + 1 := by rw [IntKind.wrap_i64]; omega
  have p20 := h.k
  have HT : Hid (_ ∧ _) := h.tk (o := 20) (by omega)
  have HH : Hid (DM w B d vo vh) := h
  clear h
  obtain ⟨p, HPe⟩ : ∃ p : Nat, d.pl = (p : Int) := ⟨d.pl.toNat, by omega⟩
  have hpl : p < l.length := by omega
  have i1 : (0 : Int) ≤ (p : Int) := by omega
  have i2 : (p : Int) < (l.length : Int) := by omega
  have b1 : decide ((l.length : Int) ≤ (p : Int)) = false := decide_eq_false (by omega)
  have b2 : decide (l.length ≤ p) = false := decide_eq_false (by omega)
  have HP : Hid (d.pl = (p : Int)) := HPe
  obtain ⟨b, off, rfl, hc⟩ := hl p hpl
  have HBB : Hid (¬ b = B) := fun e => by have := hlB b off rfl; omega
  have eq' : l.getD d.pl.toNat ins0 = l.getD p ins0 := by rw [HPe, Int.toNat_natCast]
  rw [eq'] at hq
  rw [hq] at hc
  have hOC := all_oneCell_ins q
  clear eq' HPe hl hq hpl
  have _u := And.intro hO (And.intro hOB (And.intro hG (And.intro hGB (And.intro hn (And.intro hp (And.intro hcn h64))))))
  clear _u
  clear hO hG hOB hGB hn hlB
  generalize l.length = N0 at *
  generalize os.length = N3 at *
  generalize gs.length = N4 at *
  go_enter Tryz.func25, Tryz.ntmps25
  go_wp2_with (first | (refine wpList_st_int rfl rfl _ _ _ rfl (by decide) B 20 rfl _ rfl HT.out ?_; intro w1 e1; have HD1 : Hid (DM w1 B d.tick vo vh) := (by show DM _ _ _ _ _; rw [e1]; exact HH.out.setK (d.cnt + 1)); have HK1 : Hid (Keeps (fun k => k = B) w w1) := (by show Keeps _ _ _; rw [e1]; exact (Keeps.refl (fun k => k = B) w).setCell (p := ⟨B, 20, none⟩) (fun _ => rfl) _); clear e1; have p19 : w1.cell? ⟨B, 19, none⟩ = some (.int .i64 d.pl) := HD1.out.p; obtain ⟨W4, hW4⟩ : ∃ W4, W4 = w1.alloc (.cells #[.int .i64 0, .int .i64 0, .bool false, .int .i64 0, .bool false, .int .i64 0, .bool false, .int .i64 0, .int .i64 0, .int .i64 0, .int .i64 0] 62) := ⟨_, rfl⟩; have k4 : Keeps (fun _ => False) w1 W4 := (by rw [hW4]; exact (Keeps.refl _ w1).alloc _); have hU4 : CL W4 w1.heap.size ins0.cells := (by rw [hW4]; exact CL.made w1 ins0.cells _); have HW4 : Hid (W4 = w1.alloc (.cells #[.int .i64 0, .int .i64 0, .bool false, .int .i64 0, .bool false, .int .i64 0, .bool false, .int .i64 0, .int .i64 0, .int .i64 0, .int .i64 0] 62)) := hW4; clear hW4; have hR := run_insD (W := w1) (fun j v e => HK1.out.cell (hc j v e) HBB.out); replace p19 : w1.cell? ⟨B, 19, none⟩ = some (.int .i64 (p : Int)) := (by rw [p19, HP.out])) | (refine wpList_load_run rfl 62 _ rfl ⟨b, off + p * 11, none⟩ rfl _ hR ?_; clear hR) | (rw [← HW4.out]; clear HW4; refine wpList_store_cl rfl 62 _ _ rfl w1.heap.size 0 11 _ rfl rfl rfl hU4 (by show 11 ≤ 11; decide) iInD hOC ?_; intro w3 hc3 k3 hsz3; clear hsz3; have hI3 : CL w3 w1.heap.size q.cells := hc3; clear hc3; have K3 : Keeps (fun _ => False) w1 w3 := k4.trans' k3 (fun _ _ e => e) (fun i hi e => (by have e : i = w1.heap.size := e; omega)); have HD3 : Hid (DM w3 B d.tick vo vh) := HD1.out.new K3; have x4 := hI3.c 4 _ rfl; have x5 := hI3.c 5 _ rfl; have hsx := dsource_any HD3.out q.xR q.xN) | (go_at_call 37; refine hsx.mono ?_; clear hsx; rintro e w4 ⟨rfl, k4x⟩; have hI4 := hI3.keep (by show 0 < 11; decide) k4x (fun e => e); have x6 := hI4.c 6 _ rfl; have x7 := hI4.c 7 _ rfl; have hsy := dsource_any (HD3.out.new k4x) q.yR q.yN) | (go_at_call 37; refine hsy.mono ?_; clear hsy; rintro e w5 ⟨rfl, k5⟩; have hI5 := hI4.keep (by show 0 < 11; decide) k5 (fun e => e); have HD5 : Hid (DM w5 B d.tick vo vh) := (HD3.out.new k4x).new k5; have HK5 : Hid (Keeps (fun k => k = B) w w5) := HK1.out.trans (((K3.trans k4x).trans k5).mono (fun _ _ e => e.elim)); have y0 := hI5.c 0 _ rfl; rw [hc8] at y0; have y10 := hI5.c 10 _ rfl; have HT5 : Hid (_ ∧ _) := HD5.out.tk (o := 19) (by omega)) | (refine wpList_st_int rfl rfl _ _ _ rfl (by decide) B 19 rfl _ rfl HT5.out ?_; intro w9 e9; have HE : Hid (_ = _) := e9; clear e9))
  go_end0
  exact ⟨vo, vh, rfl, by rw [HE.out]; exact HD5.out.setP q.to, by rw [HE.out]; exact (HK5.out.mono (fun i _ e => by have e : i = B := e; show B ≤ i; omega)).setCell (p := ⟨B, 19, none⟩) (fun _ => (by show B ≤ B; exact Nat.le_refl _)) _⟩
end Go.Proofs.YthchbcfecconbaaGreatDoor

