import Derived.Test.YthmoimilhbmagabDoorTab
import Derived.Test.YthmoimilhbmagabDoorRows
import Derived.OpenShut
import Derived.WalkLawsBesides
namespace Go.Proofs.YthmoimilhbmagabDoor
open Go.ChangeShapes Go.WideShapes Go.ChangeAt Go.RowKit

theorem opName_in (i : Nat) (h1 : 1 ≤ i) (h2 : i ≤ 12) (w : World) (hc : w.cell? ⟨0, i, none⟩ = some (.string (opT i))) :
    Calls Tryd.prog 4 #[.int .i64 i] w fun e w' => e = .returned (.string (opT i)) ∧ w' = w := by
  have b1 : decide ((i : Int) ≤ 12) = true := by simp; omega
  have b2 : decide ((i : Int) < 1) = false := by simp; omega
  have b3 : decide ((12 : Int) < i) = false := by simp; omega
  go_enter Tryd.func4, Tryd.ntmps4
  go_wp2
  go_ret
  exact ⟨rfl, rfl⟩
theorem opName_out (op : Int) (h : op < 1 ∨ 12 < op) (w : World) :
    Calls Tryd.prog 4 #[.int .i64 op] w fun e w' => e = .returned (.string ⟨#[]⟩) ∧ w' = w := by
  rcases h with h | h
  · go_enter Tryd.func4, Tryd.ntmps4
    go_wp2
    go_ret
    exact ⟨rfl, rfl⟩
  · have h1 : 1 ≤ op := by omega
    have h2 : decide (op ≤ 12) = false := by simp; omega
    have h3 : decide (op < 1) = false := by simp; omega
    go_enter Tryd.func4, Tryd.ntmps4
    go_wp2
    go_ret
    exact ⟨rfl, rfl⟩
theorem opName_any (op : Int) (w : World) (hc : ∀ i, i < 13 → w.cell? ⟨0, i, none⟩ = some (.string (opT i))) :
    Calls Tryd.prog 4 #[.int .i64 op] w fun e w' => e = .returned (.string (nameAt opT 12 op)) ∧ w' = w := by
  by_cases h : 1 ≤ op ∧ op ≤ 12
  · obtain ⟨i, rfl⟩ := Int.eq_ofNat_of_zero_le (show 0 ≤ op by omega)
    have e : nameAt opT 12 i = opT i := by unfold nameAt; rw [if_pos h, Int.toNat_natCast]
    rw [e]
    exact opName_in i (by omega) (by omega) w (hc i (by omega))
  · have e : nameAt opT 12 op = ⟨#[]⟩ := by unfold nameAt; rw [if_neg h]
    rw [e]
    exact opName_out op (by omega) w
set_option maxHeartbeats 1000000 in
theorem opNamed_any (s : ByteArray) (w : World) (hc : Hid (∀ i, i < 13 → w.cell? ⟨0, i, none⟩ = some (.string (opT i)))) :
    Calls Tryd.prog 8 #[.string s] w fun e w' => e = .returned (.tuple #[.int .i64 ((look opT s 1 12 : Nat) : Int), .int .i64 (lookE 10 (look opT s 1 12))]) ∧ w' = w := by
  go_enter Tryd.func8, Tryd.ntmps8
  go_wp2
  go_loop [4] (fun i => ∃ k : Nat, 1 ≤ k ∧ k ≤ 13 ∧ i = .int .i64 k ∧ look opT s 1 12 = look opT s k (13 - k)) (fun i => 13 - (intOf i).toNat)
  case atStart => exact ⟨1, by omega, by omega, rfl, rfl⟩
  case round =>
    obtain ⟨k, k1, k2, rfl, hl⟩ := hrel
    by_cases hlt : k < 13
    · have c1 := hc.out k hlt
      have e1 : 13 - k = (12 - k) + 1 := by omega
      rw [e1] at hl
      have HL : Hid (_ = _) := hl
      clear hl e1
      cases hm : ((opT k).toList == s.toList)
      · have HN : Hid (look opT s 1 12 = look opT s (k + 1) (13 - (k + 1))) := by
          show _ = _
          rw [HL.out, look_miss _ _ _ _ hm, show 13 - (k + 1) = 12 - k by omega]
        go_wp2
        go_round
        case rel => exact ⟨k + 1, by omega, by omega, by go_num, HN.out⟩
        case measure => simp [intOf]; omega
      · have HN : Hid (look opT s 1 12 = k) := by
          show _ = _
          rw [HL.out, look_hit _ _ _ _ hm]
        go_wp2
        go_ret2
        refine ⟨?_, rfl⟩
        rw [HN.out, show lookE 10 k = 0 from if_neg (by omega)]
        rfl
    · have e1 : k = 13 := by omega
      subst e1
      have HN : Hid (look opT s 1 12 = 0) := hl
      clear hl
      go_wp2
      go_ret2
      refine ⟨?_, rfl⟩
      rw [HN.out]
      rfl
theorem ropName1 (w : World) : Calls Tryd.prog 6 #[.int .i64 1] w fun e w' => e = .returned (.string (opT 1)) ∧ w' = w := by
  go_enter Tryd.func6, Tryd.ntmps6
  go_wp2
  go_ret
  exact ⟨rfl, rfl⟩
theorem ropName2 (w : World) : Calls Tryd.prog 6 #[.int .i64 2] w fun e w' => e = .returned (.string (opT 2)) ∧ w' = w := by
  go_enter Tryd.func6, Tryd.ntmps6
  go_wp2
  go_ret
  exact ⟨rfl, rfl⟩
theorem ropName3 (w : World) : Calls Tryd.prog 6 #[.int .i64 3] w fun e w' => e = .returned (.string (opT 3)) ∧ w' = w := by
  go_enter Tryd.func6, Tryd.ntmps6
  go_wp2
  go_ret
  exact ⟨rfl, rfl⟩
theorem ropName4 (w : World) : Calls Tryd.prog 6 #[.int .i64 4] w fun e w' => e = .returned (.string (opT 4)) ∧ w' = w := by
  go_enter Tryd.func6, Tryd.ntmps6
  go_wp2
  go_ret
  exact ⟨rfl, rfl⟩
theorem ropName5 (w : World) : Calls Tryd.prog 6 #[.int .i64 5] w fun e w' => e = .returned (.string (opT 5)) ∧ w' = w := by
  go_enter Tryd.func6, Tryd.ntmps6
  go_wp2
  go_ret
  exact ⟨rfl, rfl⟩
theorem ropName6 (w : World) : Calls Tryd.prog 6 #[.int .i64 6] w fun e w' => e = .returned (.string (opT 6)) ∧ w' = w := by
  go_enter Tryd.func6, Tryd.ntmps6
  go_wp2
  go_ret
  exact ⟨rfl, rfl⟩
theorem ropName7 (w : World) : Calls Tryd.prog 6 #[.int .i64 7] w fun e w' => e = .returned (.string (opT 7)) ∧ w' = w := by
  go_enter Tryd.func6, Tryd.ntmps6
  go_wp2
  go_ret
  exact ⟨rfl, rfl⟩
theorem ropName8 (w : World) : Calls Tryd.prog 6 #[.int .i64 8] w fun e w' => e = .returned (.string (opT 8)) ∧ w' = w := by
  go_enter Tryd.func6, Tryd.ntmps6
  go_wp2
  go_ret
  exact ⟨rfl, rfl⟩
theorem ropName9 (w : World) : Calls Tryd.prog 6 #[.int .i64 9] w fun e w' => e = .returned (.string (opT 9)) ∧ w' = w := by
  go_enter Tryd.func6, Tryd.ntmps6
  go_wp2
  go_ret
  exact ⟨rfl, rfl⟩
theorem ropName10 (w : World) : Calls Tryd.prog 6 #[.int .i64 10] w fun e w' => e = .returned (.string (opT 10)) ∧ w' = w := by
  go_enter Tryd.func6, Tryd.ntmps6
  go_wp2
  go_ret
  exact ⟨rfl, rfl⟩
theorem ropName11 (w : World) : Calls Tryd.prog 6 #[.int .i64 11] w fun e w' => e = .returned (.string (opT 11)) ∧ w' = w := by
  go_enter Tryd.func6, Tryd.ntmps6
  go_wp2
  go_ret
  exact ⟨rfl, rfl⟩
theorem ropName12 (w : World) : Calls Tryd.prog 6 #[.int .i64 12] w fun e w' => e = .returned (.string (opT 12)) ∧ w' = w := by
  go_enter Tryd.func6, Tryd.ntmps6
  go_wp2
  go_ret
  exact ⟨rfl, rfl⟩
theorem ropName_out (op : Int) (h : op < 1 ∨ 12 < op) (w : World) : Calls Tryd.prog 6 #[.int .i64 op] w fun e w' => e = .returned (.string ⟨#[]⟩) ∧ w' = w := by
  have k1 : (op == 1) = false := by simp; omega
  have k2 : (op == 2) = false := by simp; omega
  have k3 : (op == 3) = false := by simp; omega
  have k4 : (op == 4) = false := by simp; omega
  have k5 : (op == 5) = false := by simp; omega
  have k6 : (op == 6) = false := by simp; omega
  have k7 : (op == 7) = false := by simp; omega
  have k8 : (op == 8) = false := by simp; omega
  have k9 : (op == 9) = false := by simp; omega
  have k10 : (op == 10) = false := by simp; omega
  have k11 : (op == 11) = false := by simp; omega
  have k12 : (op == 12) = false := by simp; omega
  clear h
  go_enter Tryd.func6, Tryd.ntmps6
  go_wp2
  go_ret
  exact ⟨rfl, rfl⟩
theorem ropName_any (op : Int) (w : World) : Calls Tryd.prog 6 #[.int .i64 op] w fun e w' => e = .returned (.string (nameAt opT 12 op)) ∧ w' = w := by
  by_cases h : 1 ≤ op ∧ op ≤ 12
  · have e : nameAt opT 12 op = opT op.toNat := by unfold nameAt; rw [if_pos h]
    rw [e]
    have hh : op = 1 ∨ op = 2 ∨ op = 3 ∨ op = 4 ∨ op = 5 ∨ op = 6 ∨ op = 7 ∨ op = 8 ∨ op = 9 ∨ op = 10 ∨ op = 11 ∨ op = 12 := by omega
    rcases hh with h | h | h | h | h | h | h | h | h | h | h | h <;> subst h
    · exact ropName1 w
    · exact ropName2 w
    · exact ropName3 w
    · exact ropName4 w
    · exact ropName5 w
    · exact ropName6 w
    · exact ropName7 w
    · exact ropName8 w
    · exact ropName9 w
    · exact ropName10 w
    · exact ropName11 w
    · exact ropName12 w
  · have e : nameAt opT 12 op = ⟨#[]⟩ := by unfold nameAt; rw [if_neg h]
    rw [e]
    exact ropName_out op (by omega) w
set_option maxHeartbeats 1000000 in
theorem ropNamed_any (s : ByteArray) (w : World) :
    Calls Tryd.prog 9 #[.string s] w fun e w' => e = .returned (.tuple #[.int .i64 ((look opT s 1 12 : Nat) : Int), .int .i64 (lookE 10 (look opT s 1 12))]) ∧ w' = w := by
  go_enter Tryd.func9, Tryd.ntmps9
  go_wp2
  go_loop [4] (fun i => ∃ k : Nat, 1 ≤ k ∧ k ≤ 13 ∧ i = .int .i64 k ∧ look opT s 1 12 = look opT s k (13 - k)) (fun i => 13 - (intOf i).toNat)
  case atStart => exact ⟨1, by omega, by omega, rfl, rfl⟩
  case round =>
    obtain ⟨k, k1, k2, rfl, hl⟩ := hrel
    by_cases hlt : k < 13
    · have e1 : 13 - k = (12 - k) + 1 := by omega
      rw [e1] at hl
      have HL : Hid (_ = _) := hl
      have hn : nameAt opT 12 k = opT k := by unfold nameAt; rw [if_pos (by omega), Int.toNat_natCast]
      clear hl e1
      cases hm : ((opT k).toList == s.toList)
      · have HN : Hid (look opT s 1 12 = look opT s (k + 1) (13 - (k + 1))) := by
          show _ = _
          rw [HL.out, look_miss _ _ _ _ hm, show 13 - (k + 1) = 12 - k by omega]
        go_wp2_with (go_at_call 6; refine (ropName_any _ _).mono ?_; rintro e w' ⟨rfl, rfl⟩)
        go_round
        case rel => exact ⟨k + 1, by omega, by omega, by go_num, HN.out⟩
        case measure => simp [intOf]; omega
      · have HN : Hid (look opT s 1 12 = k) := by
          show _ = _
          rw [HL.out, look_hit _ _ _ _ hm]
        go_wp2_with (go_at_call 6; refine (ropName_any _ _).mono ?_; rintro e w' ⟨rfl, rfl⟩)
        go_ret2
        refine ⟨?_, rfl⟩
        rw [HN.out, show lookE 10 k = 0 from if_neg (by omega)]
        rfl
    · have e1 : k = 13 := by omega
      subst e1
      have HN : Hid (look opT s 1 12 = 0) := hl
      clear hl
      go_wp2
      go_ret2
      refine ⟨?_, rfl⟩
      rw [HN.out]
      rfl

theorem relName_in (i : Nat) (h1 : 1 ≤ i) (h2 : i ≤ 6) (w : World) (hc : w.cell? ⟨1, i, none⟩ = some (.string (relT i))) :
    Calls Tryd.prog 5 #[.int .i64 i] w fun e w' => e = .returned (.string (relT i)) ∧ w' = w := by
  have b1 : decide ((i : Int) ≤ 6) = true := by simp; omega
  have b2 : decide ((i : Int) < 1) = false := by simp; omega
  have b3 : decide ((6 : Int) < i) = false := by simp; omega
  go_enter Tryd.func5, Tryd.ntmps5
  go_wp2
  go_ret
  exact ⟨rfl, rfl⟩
theorem relName_out (op : Int) (h : op < 1 ∨ 6 < op) (w : World) :
    Calls Tryd.prog 5 #[.int .i64 op] w fun e w' => e = .returned (.string ⟨#[]⟩) ∧ w' = w := by
  rcases h with h | h
  · go_enter Tryd.func5, Tryd.ntmps5
    go_wp2
    go_ret
    exact ⟨rfl, rfl⟩
  · have h1 : 1 ≤ op := by omega
    have h2 : decide (op ≤ 6) = false := by simp; omega
    have h3 : decide (op < 1) = false := by simp; omega
    go_enter Tryd.func5, Tryd.ntmps5
    go_wp2
    go_ret
    exact ⟨rfl, rfl⟩
theorem relName_any (op : Int) (w : World) (hc : ∀ i, i < 7 → w.cell? ⟨1, i, none⟩ = some (.string (relT i))) :
    Calls Tryd.prog 5 #[.int .i64 op] w fun e w' => e = .returned (.string (nameAt relT 6 op)) ∧ w' = w := by
  by_cases h : 1 ≤ op ∧ op ≤ 6
  · obtain ⟨i, rfl⟩ := Int.eq_ofNat_of_zero_le (show 0 ≤ op by omega)
    have e : nameAt relT 6 i = relT i := by unfold nameAt; rw [if_pos h, Int.toNat_natCast]
    rw [e]
    exact relName_in i (by omega) (by omega) w (hc i (by omega))
  · have e : nameAt relT 6 op = ⟨#[]⟩ := by unfold nameAt; rw [if_neg h]
    rw [e]
    exact relName_out op (by omega) w
set_option maxHeartbeats 1000000 in
theorem relNamed_any (s : ByteArray) (w : World) (hc : Hid (∀ i, i < 7 → w.cell? ⟨1, i, none⟩ = some (.string (relT i)))) :
    Calls Tryd.prog 10 #[.string s] w fun e w' => e = .returned (.tuple #[.int .i64 ((look relT s 1 6 : Nat) : Int), .int .i64 (lookE 11 (look relT s 1 6))]) ∧ w' = w := by
  go_enter Tryd.func10, Tryd.ntmps10
  go_wp2
  go_loop [4] (fun i => ∃ k : Nat, 1 ≤ k ∧ k ≤ 7 ∧ i = .int .i64 k ∧ look relT s 1 6 = look relT s k (7 - k)) (fun i => 7 - (intOf i).toNat)
  case atStart => exact ⟨1, by omega, by omega, rfl, rfl⟩
  case round =>
    obtain ⟨k, k1, k2, rfl, hl⟩ := hrel
    by_cases hlt : k < 7
    · have c1 := hc.out k hlt
      have e1 : 7 - k = (6 - k) + 1 := by omega
      rw [e1] at hl
      have HL : Hid (_ = _) := hl
      clear hl e1
      cases hm : ((relT k).toList == s.toList)
      · have HN : Hid (look relT s 1 6 = look relT s (k + 1) (7 - (k + 1))) := by
          show _ = _
          rw [HL.out, look_miss _ _ _ _ hm, show 7 - (k + 1) = 6 - k by omega]
        go_wp2
        go_round
        case rel => exact ⟨k + 1, by omega, by omega, by go_num, HN.out⟩
        case measure => simp [intOf]; omega
      · have HN : Hid (look relT s 1 6 = k) := by
          show _ = _
          rw [HL.out, look_hit _ _ _ _ hm]
        go_wp2
        go_ret2
        refine ⟨?_, rfl⟩
        rw [HN.out, show lookE 11 k = 0 from if_neg (by omega)]
        rfl
    · have e1 : k = 7 := by omega
      subst e1
      have HN : Hid (look relT s 1 6 = 0) := hl
      clear hl
      go_wp2
      go_ret2
      refine ⟨?_, rfl⟩
      rw [HN.out]
      rfl
theorem rrelName1 (w : World) : Calls Tryd.prog 7 #[.int .i64 1] w fun e w' => e = .returned (.string (relT 1)) ∧ w' = w := by
  go_enter Tryd.func7, Tryd.ntmps7
  go_wp2
  go_ret
  exact ⟨rfl, rfl⟩
theorem rrelName2 (w : World) : Calls Tryd.prog 7 #[.int .i64 2] w fun e w' => e = .returned (.string (relT 2)) ∧ w' = w := by
  go_enter Tryd.func7, Tryd.ntmps7
  go_wp2
  go_ret
  exact ⟨rfl, rfl⟩
theorem rrelName3 (w : World) : Calls Tryd.prog 7 #[.int .i64 3] w fun e w' => e = .returned (.string (relT 3)) ∧ w' = w := by
  go_enter Tryd.func7, Tryd.ntmps7
  go_wp2
  go_ret
  exact ⟨rfl, rfl⟩
theorem rrelName4 (w : World) : Calls Tryd.prog 7 #[.int .i64 4] w fun e w' => e = .returned (.string (relT 4)) ∧ w' = w := by
  go_enter Tryd.func7, Tryd.ntmps7
  go_wp2
  go_ret
  exact ⟨rfl, rfl⟩
theorem rrelName5 (w : World) : Calls Tryd.prog 7 #[.int .i64 5] w fun e w' => e = .returned (.string (relT 5)) ∧ w' = w := by
  go_enter Tryd.func7, Tryd.ntmps7
  go_wp2
  go_ret
  exact ⟨rfl, rfl⟩
theorem rrelName6 (w : World) : Calls Tryd.prog 7 #[.int .i64 6] w fun e w' => e = .returned (.string (relT 6)) ∧ w' = w := by
  go_enter Tryd.func7, Tryd.ntmps7
  go_wp2
  go_ret
  exact ⟨rfl, rfl⟩
theorem rrelName_out (op : Int) (h : op < 1 ∨ 6 < op) (w : World) : Calls Tryd.prog 7 #[.int .i64 op] w fun e w' => e = .returned (.string ⟨#[]⟩) ∧ w' = w := by
  have k1 : (op == 1) = false := by simp; omega
  have k2 : (op == 2) = false := by simp; omega
  have k3 : (op == 3) = false := by simp; omega
  have k4 : (op == 4) = false := by simp; omega
  have k5 : (op == 5) = false := by simp; omega
  have k6 : (op == 6) = false := by simp; omega
  clear h
  go_enter Tryd.func7, Tryd.ntmps7
  go_wp2
  go_ret
  exact ⟨rfl, rfl⟩
theorem rrelName_any (op : Int) (w : World) : Calls Tryd.prog 7 #[.int .i64 op] w fun e w' => e = .returned (.string (nameAt relT 6 op)) ∧ w' = w := by
  by_cases h : 1 ≤ op ∧ op ≤ 6
  · have e : nameAt relT 6 op = relT op.toNat := by unfold nameAt; rw [if_pos h]
    rw [e]
    have hh : op = 1 ∨ op = 2 ∨ op = 3 ∨ op = 4 ∨ op = 5 ∨ op = 6 := by omega
    rcases hh with h | h | h | h | h | h <;> subst h
    · exact rrelName1 w
    · exact rrelName2 w
    · exact rrelName3 w
    · exact rrelName4 w
    · exact rrelName5 w
    · exact rrelName6 w
  · have e : nameAt relT 6 op = ⟨#[]⟩ := by unfold nameAt; rw [if_neg h]
    rw [e]
    exact rrelName_out op (by omega) w
set_option maxHeartbeats 1000000 in
theorem rrelNamed_any (s : ByteArray) (w : World) :
    Calls Tryd.prog 11 #[.string s] w fun e w' => e = .returned (.tuple #[.int .i64 ((look relT s 1 6 : Nat) : Int), .int .i64 (lookE 11 (look relT s 1 6))]) ∧ w' = w := by
  go_enter Tryd.func11, Tryd.ntmps11
  go_wp2
  go_loop [4] (fun i => ∃ k : Nat, 1 ≤ k ∧ k ≤ 7 ∧ i = .int .i64 k ∧ look relT s 1 6 = look relT s k (7 - k)) (fun i => 7 - (intOf i).toNat)
  case atStart => exact ⟨1, by omega, by omega, rfl, rfl⟩
  case round =>
    obtain ⟨k, k1, k2, rfl, hl⟩ := hrel
    by_cases hlt : k < 7
    · have e1 : 7 - k = (6 - k) + 1 := by omega
      rw [e1] at hl
      have HL : Hid (_ = _) := hl
      have hn : nameAt relT 6 k = relT k := by unfold nameAt; rw [if_pos (by omega), Int.toNat_natCast]
      clear hl e1
      cases hm : ((relT k).toList == s.toList)
      · have HN : Hid (look relT s 1 6 = look relT s (k + 1) (7 - (k + 1))) := by
          show _ = _
          rw [HL.out, look_miss _ _ _ _ hm, show 7 - (k + 1) = 6 - k by omega]
        go_wp2_with (go_at_call 7; refine (rrelName_any _ _).mono ?_; rintro e w' ⟨rfl, rfl⟩)
        go_round
        case rel => exact ⟨k + 1, by omega, by omega, by go_num, HN.out⟩
        case measure => simp [intOf]; omega
      · have HN : Hid (look relT s 1 6 = k) := by
          show _ = _
          rw [HL.out, look_hit _ _ _ _ hm]
        go_wp2_with (go_at_call 7; refine (rrelName_any _ _).mono ?_; rintro e w' ⟨rfl, rfl⟩)
        go_ret2
        refine ⟨?_, rfl⟩
        rw [HN.out, show lookE 11 k = 0 from if_neg (by omega)]
        rfl
    · have e1 : k = 7 := by omega
      subst e1
      have HN : Hid (look relT s 1 6 = 0) := hl
      clear hl
      go_wp2
      go_ret2
      refine ⟨?_, rfl⟩
      rw [HN.out]
      rfl
end Go.Proofs.YthmoimilhbmagabDoor
