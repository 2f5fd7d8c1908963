import Derived.Test.YthmoimilhbmagabRefBits
namespace Go.Proofs.Ythmoimilhbmagab
open Go.ChangeShapes Go.WideShapes Go.ChangeAt Go.RowKit

theorem place_next (j : Nat) (L : Nat) (e : L = 2 ^ j) : IntKind.u64.wrap ((L : Int) * 2) = ((2 ^ (j + 1) % 18446744073709551616 : Nat) : Int) := by
  rw [IntKind.wrap_u64, e, Nat.pow_succ]
  generalize 2 ^ j = K
  omega
theorem cast_half (P n : Nat) (h : n = P / 2) : (P : Int) / 2 = ((n : Nat) : Int) := by omega
theorem room (j T : Nat) (h : j < 64) (ht : T < 2 ^ j) : T + 2 ^ j < 18446744073709551616 := by
  have : 2 ^ (j + 1) ≤ 2 ^ 64 := Nat.pow_le_pow_right (by decide) (by omega)
  rw [Nat.pow_succ] at this
  have : (2 : Nat) ^ 64 = 18446744073709551616 := rfl
  omega
theorem div_lt64 (x j : Nat) (h : x < 18446744073709551616) : x / 2 ^ j < 18446744073709551616 := Nat.lt_of_le_of_lt (Nat.div_le_self _ _) h

set_option maxHeartbeats 2000000 in
theorem refBits_and (a b : Int) (w : World) :
    Calls Try.prog 40 #[.int .i64 6, .int .i64 a, .int .i64 b] w fun e w' => e = .returned (.int .i64 (ap 6 a b)) ∧ w' = w := by
  have ea := wrap_uu a
  have eb := wrap_uu b
  have hl := and_lt a b
  have la := u_lt a
  have lb := u_lt b
  have HF : Hid (wrap64 ((u a &&& u b : Nat) : Int) = ap 6 a b) := by show _ = _; rw [ap6, and_i64]
  generalize u a = U at *
  generalize u b = V at *
  have HR : Hid (∀ j, (U &&& V) / 2 ^ j % 2 = _) := fun j => and_place U V j
  generalize U &&& V = R at *
  go_enter Try.func40, Try.ntmps40
  go_wp2
  go_loop [7, 8, 9, 10, 11] (fun x y r p i => ∃ j : Nat, j ≤ 64 ∧ i = .int .i64 j ∧ x = .int .u64 ((U / 2 ^ j : Nat) : Int) ∧ y = .int .u64 ((V / 2 ^ j : Nat) : Int) ∧ r = .int .u64 ((R % 2 ^ j : Nat) : Int) ∧ p = .int .u64 ((2 ^ j % 18446744073709551616 : Nat) : Int)) (fun _ _ _ _ i => 64 - (intOf i).toNat)
  case atStart => exact ⟨0, by omega, rfl, valU (by simp), valU (by simp), valU (by simp [Nat.mod_one]), valU (by simp)⟩
  case round =>
    obtain ⟨j, hj, rfl, rfl, rfl, rfl, rfl⟩ := hrel
    by_cases hlt : j < 64
    · have s1 : Hid (_ = _) := bit_step R j
      have s2 : Hid (_ = _) := HR.out j
      have s3 : Hid (_ = _) := half_place U j
      have s4 : Hid (_ = _) := half_place V j
      have s5 : Hid (_ = _) := Nat.mod_eq_of_lt (place_lt j hlt)
      have b1 := div_lt64 U j la
      have b2 := div_lt64 V j lb
      have b3 := Nat.mod_lt R (Nat.two_pow_pos j)
      have b4 := room j _ hlt b3
      have b5 := place_lt j hlt
      have s6 : Hid (∀ L : Nat, L = 2 ^ j → IntKind.u64.wrap ((L : Int) * 2) = ((2 ^ (j + 1) % 18446744073709551616 : Nat) : Int)) := fun L e => place_next j L e
      rw [s5.out]
      generalize hP : U / 2 ^ j = P at *
      generalize hQ : V / 2 ^ j = Q at *
      generalize hT : R % 2 ^ j = T at *
      generalize hL : 2 ^ j = L at *
      have HP : Hid (_ = _) := hP
      have HQ : Hid (_ = _) := hQ
      have HT : Hid (_ = _) := hT
      have HL : Hid (_ = _) := hL
      clear hP hQ hT hL
      rcases Nat.mod_two_eq_zero_or_one P with cp | cp <;> rcases Nat.mod_two_eq_zero_or_one Q with cq | cq
      all_goals
        have CP : Hid (_ = _) := cp
        have CQ : Hid (_ = _) := cq
        have ip : (P : Int) % 2 = ((P % 2 : Nat) : Int) := by omega
        have iq : (Q : Int) % 2 = ((Q % 2 : Nat) : Int) := by omega
        rw [cp] at ip
        rw [cq] at iq
        clear cp cq
        go_wp2
        go_round
        case rel => exact ⟨j + 1, by omega, by go_num, valU (cast_half _ _ s3.out), valU (cast_half _ _ s4.out), valU (by have g1 := s1.out; have g2 := s2.out; rw [CP.out, CQ.out] at g2; rw [g1, g2]; simp), valU (s6.out L rfl)⟩
        case measure => simp [intOf]; omega
    · have : j = 64 := by omega
      subst this
      have e1 : R % 2 ^ 64 = R := Nat.mod_eq_of_lt hl
      rw [e1]
      go_wp2
      go_ret
      exact ⟨ret64 HF.out, rfl⟩

set_option maxHeartbeats 2000000 in
theorem refBits_or (a b : Int) (w : World) :
    Calls Try.prog 40 #[.int .i64 7, .int .i64 a, .int .i64 b] w fun e w' => e = .returned (.int .i64 (ap 7 a b)) ∧ w' = w := by
  have ea := wrap_uu a
  have eb := wrap_uu b
  have hl := or_lt a b
  have la := u_lt a
  have lb := u_lt b
  have HF : Hid (wrap64 ((u a ||| u b : Nat) : Int) = ap 7 a b) := by show _ = _; rw [ap7, or_i64]
  generalize u a = U at *
  generalize u b = V at *
  have HR : Hid (∀ j, (U ||| V) / 2 ^ j % 2 = _) := fun j => or_place U V j
  generalize U ||| V = R at *
  go_enter Try.func40, Try.ntmps40
  go_wp2
  go_loop [7, 8, 9, 10, 11] (fun x y r p i => ∃ j : Nat, j ≤ 64 ∧ i = .int .i64 j ∧ x = .int .u64 ((U / 2 ^ j : Nat) : Int) ∧ y = .int .u64 ((V / 2 ^ j : Nat) : Int) ∧ r = .int .u64 ((R % 2 ^ j : Nat) : Int) ∧ p = .int .u64 ((2 ^ j % 18446744073709551616 : Nat) : Int)) (fun _ _ _ _ i => 64 - (intOf i).toNat)
  case atStart => exact ⟨0, by omega, rfl, valU (by simp), valU (by simp), valU (by simp [Nat.mod_one]), valU (by simp)⟩
  case round =>
    obtain ⟨j, hj, rfl, rfl, rfl, rfl, rfl⟩ := hrel
    by_cases hlt : j < 64
    · have s1 : Hid (_ = _) := bit_step R j
      have s2 : Hid (_ = _) := HR.out j
      have s3 : Hid (_ = _) := half_place U j
      have s4 : Hid (_ = _) := half_place V j
      have s5 : Hid (_ = _) := Nat.mod_eq_of_lt (place_lt j hlt)
      have b1 := div_lt64 U j la
      have b2 := div_lt64 V j lb
      have b3 := Nat.mod_lt R (Nat.two_pow_pos j)
      have b4 := room j _ hlt b3
      have b5 := place_lt j hlt
      have s6 : Hid (∀ L : Nat, L = 2 ^ j → IntKind.u64.wrap ((L : Int) * 2) = ((2 ^ (j + 1) % 18446744073709551616 : Nat) : Int)) := fun L e => place_next j L e
      rw [s5.out]
      generalize hP : U / 2 ^ j = P at *
      generalize hQ : V / 2 ^ j = Q at *
      generalize hT : R % 2 ^ j = T at *
      generalize hL : 2 ^ j = L at *
      have HP : Hid (_ = _) := hP
      have HQ : Hid (_ = _) := hQ
      have HT : Hid (_ = _) := hT
      have HL : Hid (_ = _) := hL
      clear hP hQ hT hL
      rcases Nat.mod_two_eq_zero_or_one P with cp | cp <;> rcases Nat.mod_two_eq_zero_or_one Q with cq | cq
      all_goals
        have CP : Hid (_ = _) := cp
        have CQ : Hid (_ = _) := cq
        have ip : (P : Int) % 2 = ((P % 2 : Nat) : Int) := by omega
        have iq : (Q : Int) % 2 = ((Q % 2 : Nat) : Int) := by omega
        rw [cp] at ip
        rw [cq] at iq
        clear cp cq
        go_wp2
        go_round
        case rel => exact ⟨j + 1, by omega, by go_num, valU (cast_half _ _ s3.out), valU (cast_half _ _ s4.out), valU (by have g1 := s1.out; have g2 := s2.out; rw [CP.out, CQ.out] at g2; rw [g1, g2]; simp), valU (s6.out L rfl)⟩
        case measure => simp [intOf]; omega
    · have : j = 64 := by omega
      subst this
      have e1 : R % 2 ^ 64 = R := Nat.mod_eq_of_lt hl
      rw [e1]
      go_wp2
      go_ret
      exact ⟨ret64 HF.out, rfl⟩

set_option maxHeartbeats 2000000 in
theorem refBits_xor (a b : Int) (w : World) :
    Calls Try.prog 40 #[.int .i64 8, .int .i64 a, .int .i64 b] w fun e w' => e = .returned (.int .i64 (ap 8 a b)) ∧ w' = w := by
  have ea := wrap_uu a
  have eb := wrap_uu b
  have hl := xor_lt a b
  have la := u_lt a
  have lb := u_lt b
  have HF : Hid (wrap64 ((u a ^^^ u b : Nat) : Int) = ap 8 a b) := by show _ = _; rw [ap8, xor_i64]
  generalize u a = U at *
  generalize u b = V at *
  have HR : Hid (∀ j, (U ^^^ V) / 2 ^ j % 2 = _) := fun j => xor_place U V j
  generalize U ^^^ V = R at *
  go_enter Try.func40, Try.ntmps40
  go_wp2
  go_loop [7, 8, 9, 10, 11] (fun x y r p i => ∃ j : Nat, j ≤ 64 ∧ i = .int .i64 j ∧ x = .int .u64 ((U / 2 ^ j : Nat) : Int) ∧ y = .int .u64 ((V / 2 ^ j : Nat) : Int) ∧ r = .int .u64 ((R % 2 ^ j : Nat) : Int) ∧ p = .int .u64 ((2 ^ j % 18446744073709551616 : Nat) : Int)) (fun _ _ _ _ i => 64 - (intOf i).toNat)
  case atStart => exact ⟨0, by omega, rfl, valU (by simp), valU (by simp), valU (by simp [Nat.mod_one]), valU (by simp)⟩
  case round =>
    obtain ⟨j, hj, rfl, rfl, rfl, rfl, rfl⟩ := hrel
    by_cases hlt : j < 64
    · have s1 : Hid (_ = _) := bit_step R j
      have s2 : Hid (_ = _) := HR.out j
      have s3 : Hid (_ = _) := half_place U j
      have s4 : Hid (_ = _) := half_place V j
      have s5 : Hid (_ = _) := Nat.mod_eq_of_lt (place_lt j hlt)
      have b1 := div_lt64 U j la
      have b2 := div_lt64 V j lb
      have b3 := Nat.mod_lt R (Nat.two_pow_pos j)
      have b4 := room j _ hlt b3
      have b5 := place_lt j hlt
      have s6 : Hid (∀ L : Nat, L = 2 ^ j → IntKind.u64.wrap ((L : Int) * 2) = ((2 ^ (j + 1) % 18446744073709551616 : Nat) : Int)) := fun L e => place_next j L e
      rw [s5.out]
      generalize hP : U / 2 ^ j = P at *
      generalize hQ : V / 2 ^ j = Q at *
      generalize hT : R % 2 ^ j = T at *
      generalize hL : 2 ^ j = L at *
      have HP : Hid (_ = _) := hP
      have HQ : Hid (_ = _) := hQ
      have HT : Hid (_ = _) := hT
      have HL : Hid (_ = _) := hL
      clear hP hQ hT hL
      rcases Nat.mod_two_eq_zero_or_one P with cp | cp <;> rcases Nat.mod_two_eq_zero_or_one Q with cq | cq
      all_goals
        have CP : Hid (_ = _) := cp
        have CQ : Hid (_ = _) := cq
        have ip : (P : Int) % 2 = ((P % 2 : Nat) : Int) := by omega
        have iq : (Q : Int) % 2 = ((Q % 2 : Nat) : Int) := by omega
        rw [cp] at ip
        rw [cq] at iq
        clear cp cq
        go_wp2
        go_round
        case rel => exact ⟨j + 1, by omega, by go_num, valU (cast_half _ _ s3.out), valU (cast_half _ _ s4.out), valU (by have g1 := s1.out; have g2 := s2.out; rw [CP.out, CQ.out] at g2; rw [g1, g2]; simp), valU (s6.out L rfl)⟩
        case measure => simp [intOf]; omega
    · have : j = 64 := by omega
      subst this
      have e1 : R % 2 ^ 64 = R := Nat.mod_eq_of_lt hl
      rw [e1]
      go_wp2
      go_ret
      exact ⟨ret64 HF.out, rfl⟩
end Go.Proofs.Ythmoimilhbmagab
