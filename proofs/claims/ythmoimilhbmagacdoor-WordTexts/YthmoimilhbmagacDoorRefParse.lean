import Derived.Test.YthmoimilhbmagacDoorRefParseFacts
namespace Go.Proofs.YthmoimilhbmagacDoor
open Go.ChangeShapes Go.WideShapes Go.ChangeAt Go.RowKit

set_option maxHeartbeats 4000000 in
set_option maxRecDepth 100000 in
theorem refParse_plain (s : ByteArray) (w : World) (hs : s.size ≤ 281474976710656) (h : 0 < s.size) (h1 : s[0].toNat ≠ 45) (h3 : (s[0].toNat ≠ 48) ∨ (s[0].toNat = 48 ∧ s.size = 1)) :
    Calls Tryd.prog 8 #[.string s] w fun e w' => e = .returned (.tuple #[.int .i64 (prsV s.toList), .int .i64 (prsE s.toList)]) ∧ w' = w := by
  have a1 : s.toList.isEmpty = false := by rw [list_cons s h]; rfl
  have a0 : decide ((0 : Int) < (s.size : Int)) = true := by simp; omega
  have a2 : ((s[0].toNat : Int) == 45) = false := by simp; omega
  have HG : Hid (_ ∧ _ ∧ _) := neg_plain h h1
  have HF : Hid (numForm s.toList = s.toList.all digB) := by
    rcases h3 with h3 | ⟨h3, h5⟩
    · exact (form_plain h h1).2 h3
    · exact (form_zero h h3 h5).1
  have HH : Hid (∀ _ : s.toList.all digB = true, s.toList = [48] ∨ ∃ e r, s.toList = e :: r ∧ 49 ≤ e.toNat) := by
    intro ha
    rcases h3 with h3 | ⟨h3, h5⟩
    · refine .inr ⟨s[0], s.toList.drop 1, list_cons s h, ?_⟩
      have e := list_cons s h
      rw [e, List.all_cons, Bool.and_eq_true] at ha
      have := (digB_iff _).1 ha.1
      omega
    · exact .inl (form_zero h h3 h5).2
  have a5 : (((s[0].toNat : Int) == 48) = false) ∨ ((((s[0].toNat : Int) == 48) = true) ∧ decide ((1 : Int) < (s.size : Int)) = false) := by
    rcases h3 with h3 | ⟨h3, h5⟩
    · left; simp; omega
    · right; refine ⟨by simp; omega, by simp; omega⟩
  clear h3
  rcases a5 with a4 | ⟨a4, a6⟩
  all_goals
    go_enter Tryd.func8, Tryd.ntmps8
    go_wp2
    go_loop [7] (fun i => ∃ k : Nat, k ≤ s.size ∧ i = .int .i64 k ∧ DigTo s k) (fun i => s.size - (intOf i).toNat)
    case atStart => exact ⟨0, Nat.zero_le _, rfl, digTo_zero _⟩
    case round =>
      obtain ⟨k, hk, rfl, hd⟩ := hrel
      have HD : Hid (DigTo s k) := hd
      clear hd
      by_cases hlt : k < s.size
      · by_cases c1 : s[k].toNat < 48
        · have b1 : decide ((s[k].toNat : Int) < 48) = true := by simp; omega
          have HN : Hid (_ = _) := not_all hlt (.inl c1)
          have HB : Hid (prsV s.toList = 0 ∧ prsE s.toList = 12) := prs_bad (by rw [HF.out, HN.out])
          go_wp2
          go_ret2
          exact ⟨ret2 HB.out.1.symm HB.out.2.symm, rfl⟩
        · have b1 : decide ((s[k].toNat : Int) < 48) = false := by simp; omega
          by_cases c2 : 57 < s[k].toNat
          · have b2 : decide ((57 : Int) < (s[k].toNat : Int)) = true := by simp; omega
            have HN : Hid (_ = _) := not_all hlt (.inr c2)
            have HB : Hid (prsV s.toList = 0 ∧ prsE s.toList = 12) := prs_bad (by rw [HF.out, HN.out])
            go_wp2
            go_ret2
            exact ⟨ret2 HB.out.1.symm HB.out.2.symm, rfl⟩
          · have b2 : decide ((57 : Int) < (s[k].toNat : Int)) = false := by simp; omega
            have HN : Hid (DigTo s (k + 1)) := digTo_succ HD.out hlt (by omega) (by omega)
            go_wp2
            go_round
            case rel => exact ⟨k + 1, by omega, by go_num, HN.out⟩
            case measure => simp [intOf]; omega
      · have e : k = s.size := by omega
        subst e
        have HN : Hid (_ = _) := digTo_all HD.out
        have HA : Hid (numForm s.toList = true) := HF.out.trans HN.out
        have hw := range_ways (t := s.toList) (m := [57, 50, 50, 51, 51, 55, 50, 48, 51, 54, 56, 53, 52, 55, 55, 53, 56, 48, 55]) rfl mp_all mp_nat (by decide) (by decide) HN.out (HH.out HN.out)
        rw [list_len] at hw
        rcases hw with ⟨r1, r2⟩ | ⟨r1, r2, r3, r4⟩ | ⟨r1, r2, r4⟩ | ⟨r1, r4⟩
        · have HB : Hid (prsV s.toList = 0 ∧ prsE s.toList = 13) := prs_range HA.out (by rw [HG.out.2.1, HG.out.2.2]; omega)
          have g1 : decide ((19 : Int) < (s.size : Int)) = true := by simp; omega
          go_wp2
          go_ret2
          exact ⟨ret2 HB.out.1.symm HB.out.2.symm, rfl⟩
        · have HB : Hid (prsV s.toList = 0 ∧ prsE s.toList = 13) := prs_range HA.out (by rw [HG.out.2.1, HG.out.2.2]; omega)
          have g1 : decide ((19 : Int) < (s.size : Int)) = false := by simp; omega
          have g2 : ((s.size : Int) == 19) = true := by simp; omega
          clear r1
          go_wp2
          go_ret2
          exact ⟨ret2 HB.out.1.symm HB.out.2.symm, rfl⟩
        all_goals
          have HV : Hid (prsV s.toList = (if neg? s.toList then -((natv 0 s.toList : Nat) : Int) else ((natv 0 s.toList : Nat) : Int)) ∧ prsE s.toList = 0) := prs_of HA.out (by rw [HG.out.2.1]) (by rw [HG.out.2.2]; exact r4)
          have HV2 : Hid (prsV s.toList = ((natv 0 s.toList : Nat) : Int) ∧ prsE s.toList = 0) := by
            obtain ⟨v1, v2⟩ := HV.out
            rw [HG.out.1] at v1
            exact ⟨v1, v2⟩
          clear HV
          have RR : Hid (natv 0 s.toList ≤ 9223372036854775807) := r4
          have g1 : decide ((19 : Int) < (s.size : Int)) = false := by simp; omega
        · have g2 : ((s.size : Int) == 19) = true := by simp; omega
          rcases r2 with r2 | ⟨r2, r3⟩
          all_goals
            clear r1
            go_wp2
            go_loop [8, 9] (fun x i => ∃ k : Nat, k ≤ s.size ∧ i = .int .i64 k ∧ x = .int .i64 (-((natTo s k : Nat) : Int))) (fun _ i => s.size - (intOf i).toNat)
            case atStart => exact ⟨0, Nat.zero_le _, rfl, by rw [natTo_zero]; rfl⟩
            case round =>
              obtain ⟨j, hj, rfl, rfl⟩ := hrel
              by_cases hlt : j < s.size
              · have HS : Hid (_ = _) := natTo_succ s j hlt
                have q1 := natTo_le s (j + 1)
                rw [HS.out] at q1
                have q0 := RR.out
                obtain ⟨d1, d2⟩ := HD.out j hlt hlt
                have q2 : natTo s j * 10 + (s[j].toNat - 48) ≤ 9223372036854775807 := Nat.le_trans q1 q0
                clear q0 q1
                go_wp2
                go_round
                case rel => exact ⟨j + 1, by omega, by go_num, congrArg (Value.int .i64) (by rw [HS.out]; omega)⟩
                case measure => simp [intOf]; omega
              · have e : j = s.size := by omega
                subst e
                have HE : Hid (_ = _) := natTo_all s
                have q0 := natTo_le s s.size
                have q1 : natTo s s.size ≤ 9223372036854775807 := Nat.le_trans q0 RR.out
                clear q0
                go_wp2
                go_ret2
                exact ⟨ret2 (by rw [HV2.out.1, ← HE.out]) HV2.out.2.symm, rfl⟩
        · have g2 : ((s.size : Int) == 19) = false := by simp; omega
          clear r1
          go_wp2
          go_loop [8, 9] (fun x i => ∃ k : Nat, k ≤ s.size ∧ i = .int .i64 k ∧ x = .int .i64 (-((natTo s k : Nat) : Int))) (fun _ i => s.size - (intOf i).toNat)
          case atStart => exact ⟨0, Nat.zero_le _, rfl, by rw [natTo_zero]; rfl⟩
          case round =>
            obtain ⟨j, hj, rfl, rfl⟩ := hrel
            by_cases hlt : j < s.size
            · have HS : Hid (_ = _) := natTo_succ s j hlt
              have q1 := natTo_le s (j + 1)
              rw [HS.out] at q1
              have q0 := RR.out
              obtain ⟨d1, d2⟩ := HD.out j hlt hlt
              have q2 : natTo s j * 10 + (s[j].toNat - 48) ≤ 9223372036854775807 := Nat.le_trans q1 q0
              clear q0 q1
              go_wp2
              go_round
              case rel => exact ⟨j + 1, by omega, by go_num, congrArg (Value.int .i64) (by rw [HS.out]; omega)⟩
              case measure => simp [intOf]; omega
            · have e : j = s.size := by omega
              subst e
              have HE : Hid (_ = _) := natTo_all s
              have q0 := natTo_le s s.size
              have q1 : natTo s s.size ≤ 9223372036854775807 := Nat.le_trans q0 RR.out
              clear q0
              go_wp2
              go_ret2
              exact ⟨ret2 (by rw [HV2.out.1, ← HE.out]) HV2.out.2.symm, rfl⟩
end Go.Proofs.YthmoimilhbmagacDoor
