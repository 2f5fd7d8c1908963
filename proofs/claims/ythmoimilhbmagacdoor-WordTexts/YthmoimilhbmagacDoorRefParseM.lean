import Derived.Test.YthmoimilhbmagacDoorRefParseFacts
namespace Go.Proofs.YthmoimilhbmagacDoor
open Go.ChangeShapes Go.WideShapes Go.ChangeAt Go.RowKit

set_option maxHeartbeats 4000000 in
set_option maxRecDepth 100000 in
theorem refParse_minus (s : ByteArray) (w : World) (hs : s.size ≤ 281474976710656) (h : 0 < s.size) (h1 : s[0].toNat = 45) (h2 : 0 < (s.extract 1 s.size).size) (h3 : (s.extract 1 s.size)[0].toNat ≠ 48) :
    Calls Tryd.prog 8 #[.string s] w fun e w' => e = .returned (.tuple #[.int .i64 (prsV s.toList), .int .i64 (prsE s.toList)]) ∧ w' = w := by
  have a1 : s.toList.isEmpty = false := by rw [list_cons s h]; rfl
  have a0 : decide ((0 : Int) < (s.size : Int)) = true := by simp; omega
  have a2 : ((s[0].toNat : Int) == 45) = true := by simp; omega
  have HG : Hid (_ ∧ _ ∧ _) := neg_minus h h1
  have HF : Hid (numForm s.toList = (s.extract 1 s.size).toList.all digB) := ((form_minus h h1).2 h2).2 h3
  have HH : Hid (∀ _ : (s.extract 1 s.size).toList.all digB = true, (s.extract 1 s.size).toList = [48] ∨ ∃ e r, (s.extract 1 s.size).toList = e :: r ∧ 49 ≤ e.toNat) := by
    intro ha
    refine .inr ⟨_, _, list_cons _ h2, ?_⟩
    have e := list_cons _ h2
    rw [e, List.all_cons, Bool.and_eq_true] at ha
    have := (digB_iff _).1 ha.1
    omega
  have hts : (s.extract 1 s.size).size ≤ 281474976710656 := by simp; omega
  have a3 : (s.extract 1 s.size).toList.isEmpty = false := by rw [list_cons _ h2]; rfl
  have a4 : (((s.extract 1 s.size)[0].toNat : Int) == 48) = false := by simp; omega
  have h2' : 0 < s.size - 1 := by simpa using h2
  go_enter Tryd.func8, Tryd.ntmps8
  go_wp2
  generalize (s.extract 1 s.size)[0].toNat = c0 at *
  clear h2 h2' h3 a4
  generalize s.extract 1 s.size = t at *
  go_loop [7] (fun i => ∃ k : Nat, k ≤ t.size ∧ i = .int .i64 k ∧ DigTo t k) (fun i => t.size - (intOf i).toNat)
  case atStart => exact ⟨0, Nat.zero_le _, rfl, digTo_zero _⟩
  case round =>
    obtain ⟨k, hk, rfl, hd⟩ := hrel
    have HD : Hid (DigTo t k) := hd
    clear hd
    by_cases hlt : k < t.size
    · by_cases c1 : t[k].toNat < 48
      · have b1 : decide ((t[k].toNat : Int) < 48) = true := by simp; omega
        have HN : Hid (_ = _) := not_all hlt (.inl c1)
        have HB : Hid (prsV s.toList = 0 ∧ prsE s.toList = 12) := prs_bad (by rw [HF.out, HN.out])
        go_wp2
        go_ret2
        exact ⟨ret2 HB.out.1.symm HB.out.2.symm, rfl⟩
      · have b1 : decide ((t[k].toNat : Int) < 48) = false := by simp; omega
        by_cases c2 : 57 < t[k].toNat
        · have b2 : decide ((57 : Int) < (t[k].toNat : Int)) = true := by simp; omega
          have HN : Hid (_ = _) := not_all hlt (.inr c2)
          have HB : Hid (prsV s.toList = 0 ∧ prsE s.toList = 12) := prs_bad (by rw [HF.out, HN.out])
          go_wp2
          go_ret2
          exact ⟨ret2 HB.out.1.symm HB.out.2.symm, rfl⟩
        · have b2 : decide ((57 : Int) < (t[k].toNat : Int)) = false := by simp; omega
          have HN : Hid (DigTo t (k + 1)) := digTo_succ HD.out hlt (by omega) (by omega)
          go_wp2
          go_round
          case rel => exact ⟨k + 1, by omega, by go_num, HN.out⟩
          case measure => simp [intOf]; omega
    · have e : k = t.size := by omega
      subst e
      have HN : Hid (_ = _) := digTo_all HD.out
      have HA : Hid (numForm s.toList = true) := HF.out.trans HN.out
      have hw := range_ways (t := t.toList) (m := [57, 50, 50, 51, 51, 55, 50, 48, 51, 54, 56, 53, 52, 55, 55, 53, 56, 48, 56]) rfl mm_all mm_nat (by decide) (by decide) HN.out (HH.out HN.out)
      rw [list_len] at hw
      rcases hw with ⟨r1, r2⟩ | ⟨r1, r2, r3, r4⟩ | ⟨r1, r2, r4⟩ | ⟨r1, r4⟩
      · have HB : Hid (prsV s.toList = 0 ∧ prsE s.toList = 13) := prs_range HA.out (by rw [HG.out.2.1, HG.out.2.2]; omega)
        have g1 : decide ((19 : Int) < (t.size : Int)) = true := by simp; omega
        go_wp2
        go_ret2
        exact ⟨ret2 HB.out.1.symm HB.out.2.symm, rfl⟩
      · have HB : Hid (prsV s.toList = 0 ∧ prsE s.toList = 13) := prs_range HA.out (by rw [HG.out.2.1, HG.out.2.2]; omega)
        have g1 : decide ((19 : Int) < (t.size : Int)) = false := by simp; omega
        have g2 : ((t.size : Int) == 19) = true := by simp; omega
        clear r1
        go_wp2
        go_ret2
        exact ⟨ret2 HB.out.1.symm HB.out.2.symm, rfl⟩
      all_goals
        have HV : Hid (prsV s.toList = (if neg? s.toList then -((natv 0 t.toList : Nat) : Int) else ((natv 0 t.toList : Nat) : Int)) ∧ prsE s.toList = 0) := prs_of HA.out (by rw [HG.out.2.1]) (by rw [HG.out.2.2]; exact r4)
        have HV2 : Hid (prsV s.toList = -((natv 0 t.toList : Nat) : Int) ∧ prsE s.toList = 0) := by
          obtain ⟨v1, v2⟩ := HV.out
          rw [HG.out.1] at v1
          exact ⟨v1, v2⟩
        clear HV
        have RR : Hid (natv 0 t.toList ≤ 9223372036854775808) := r4
        have g1 : decide ((19 : Int) < (t.size : Int)) = false := by simp; omega
      · have g2 : ((t.size : Int) == 19) = true := by simp; omega
        rcases r2 with r2 | ⟨r2, r3⟩
        all_goals
          clear r1
          go_wp2
          go_loop [8, 9] (fun x i => ∃ k : Nat, k ≤ t.size ∧ i = .int .i64 k ∧ x = .int .i64 (-((natTo t k : Nat) : Int))) (fun _ i => t.size - (intOf i).toNat)
          case atStart => exact ⟨0, Nat.zero_le _, rfl, by rw [natTo_zero]; rfl⟩
          case round =>
            obtain ⟨j, hj, rfl, rfl⟩ := hrel
            by_cases hlt : j < t.size
            · have HS : Hid (_ = _) := natTo_succ t j hlt
              have q1 := natTo_le t (j + 1)
              rw [HS.out] at q1
              have q0 := RR.out
              obtain ⟨d1, d2⟩ := HD.out j hlt hlt
              have q2 : natTo t j * 10 + (t[j].toNat - 48) ≤ 9223372036854775808 := Nat.le_trans q1 q0
              clear q0 q1
              go_wp2
              go_round
              case rel => exact ⟨j + 1, by omega, by go_num, congrArg (Value.int .i64) (by rw [HS.out]; omega)⟩
              case measure => simp [intOf]; omega
            · have e : j = t.size := by omega
              subst e
              have HE : Hid (_ = _) := natTo_all t
              have q0 := natTo_le t t.size
              have q1 : natTo t t.size ≤ 9223372036854775808 := Nat.le_trans q0 RR.out
              clear q0
              go_wp2
              go_ret2
              exact ⟨ret2 (by rw [HV2.out.1, ← HE.out]) HV2.out.2.symm, rfl⟩
      · have g2 : ((t.size : Int) == 19) = false := by simp; omega
        clear r1
        go_wp2
        go_loop [8, 9] (fun x i => ∃ k : Nat, k ≤ t.size ∧ i = .int .i64 k ∧ x = .int .i64 (-((natTo t k : Nat) : Int))) (fun _ i => t.size - (intOf i).toNat)
        case atStart => exact ⟨0, Nat.zero_le _, rfl, by rw [natTo_zero]; rfl⟩
        case round =>
          obtain ⟨j, hj, rfl, rfl⟩ := hrel
          by_cases hlt : j < t.size
          · have HS : Hid (_ = _) := natTo_succ t j hlt
            have q1 := natTo_le t (j + 1)
            rw [HS.out] at q1
            have q0 := RR.out
            obtain ⟨d1, d2⟩ := HD.out j hlt hlt
            have q2 : natTo t j * 10 + (t[j].toNat - 48) ≤ 9223372036854775808 := Nat.le_trans q1 q0
            clear q0 q1
            go_wp2
            go_round
            case rel => exact ⟨j + 1, by omega, by go_num, congrArg (Value.int .i64) (by rw [HS.out]; omega)⟩
            case measure => simp [intOf]; omega
          · have e : j = t.size := by omega
            subst e
            have HE : Hid (_ = _) := natTo_all t
            have q0 := natTo_le t t.size
            have q1 : natTo t t.size ≤ 9223372036854775808 := Nat.le_trans q0 RR.out
            clear q0
            go_wp2
            go_ret2
            exact ⟨ret2 (by rw [HV2.out.1, ← HE.out]) HV2.out.2.symm, rfl⟩
end Go.Proofs.YthmoimilhbmagacDoor
