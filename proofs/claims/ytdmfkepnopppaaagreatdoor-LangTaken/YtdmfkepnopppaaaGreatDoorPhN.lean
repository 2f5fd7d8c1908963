import Derived.Test.YtdmfkepnopppaaaGreatDoorTab
import Derived.Test.YtdmfkepnopppaaaGreatDoorRows
import Derived.OpenShut
import Derived.WalkLawsBesides
namespace Go.Proofs.YtdmfkepnopppaaaGreatDoor
open Go.ChangeShapes Go.WideShapes Go.ChangeAt Go.RowKit
set_option maxHeartbeats 1000000 in
theorem opNamed_any (s : ByteArray) (w : World) (hc : Hid (∀ i, i < 13 → w.cell? ⟨1, i, none⟩ = some (.string (opT i)))) :
    Calls Tryz.prog 60 #[.string s] w fun e w' => e = .returned (.tuple #[.int .i64 ((look opT s 1 12 : Nat) : Int), .int .i64 (lookE 10 (look opT s 1 12))]) ∧ w' = w := by
  go_enter Tryz.func60, Tryz.ntmps60
  go_wp2
  go_loop [4] (fun i => ∃ k : Nat, 1 ≤ k ∧ k ≤ 13 ∧ i = .int .i64 k ∧ look opT s 1 12 = look opT s k (13 - k)) (fun i => 13 - (intOf i).toNat)
  case atStart => exact ⟨1, by omega, by omega, rfl, rfl⟩
  case round =>
    obtain ⟨k, k1, k2, rfl, hl⟩ := hrel
    by_cases hlt : k < 13
    · have c1 := hc.out k hlt
      have e1 : 13 - k = (12 - k) + 1 := by omega
      rw [e1] at hl
      have HL : Hid (_ = _) := hl
      clear hl e1
      cases hm : ((opT k).toList == s.toList)
      · have HN : Hid (look opT s 1 12 = look opT s (k + 1) (13 - (k + 1))) := by
          show _ = _
          rw [HL.out, look_miss _ _ _ _ hm, show 13 - (k + 1) = 12 - k by omega]
        go_wp2
        go_round
        case rel => exact ⟨k + 1, by omega, by omega, by go_num, HN.out⟩
        case measure => simp [intOf]; omega
      · have HN : Hid (look opT s 1 12 = k) := by
          show _ = _
          rw [HL.out, look_hit _ _ _ _ hm]
        go_wp2
        go_ret2
        refine ⟨?_, rfl⟩
        rw [HN.out, show lookE 10 k = 0 from if_neg (by omega)]
        rfl
    · have e1 : k = 13 := by omega
      subst e1
      have HN : Hid (look opT s 1 12 = 0) := hl
      clear hl
      go_wp2
      go_ret2
      refine ⟨?_, rfl⟩
      rw [HN.out]
      rfl
set_option maxHeartbeats 1000000 in
theorem relNamed_any (s : ByteArray) (w : World) (hc : Hid (∀ i, i < 7 → w.cell? ⟨2, i, none⟩ = some (.string (relT i)))) :
    Calls Tryz.prog 86 #[.string s] w fun e w' => e = .returned (.tuple #[.int .i64 ((look relT s 1 6 : Nat) : Int), .int .i64 (lookE 11 (look relT s 1 6))]) ∧ w' = w := by
  go_enter Tryz.func86, Tryz.ntmps86
  go_wp2
  go_loop [4] (fun i => ∃ k : Nat, 1 ≤ k ∧ k ≤ 7 ∧ i = .int .i64 k ∧ look relT s 1 6 = look relT s k (7 - k)) (fun i => 7 - (intOf i).toNat)
  case atStart => exact ⟨1, by omega, by omega, rfl, rfl⟩
  case round =>
    obtain ⟨k, k1, k2, rfl, hl⟩ := hrel
    by_cases hlt : k < 7
    · have c1 := hc.out k hlt
      have e1 : 7 - k = (6 - k) + 1 := by omega
      rw [e1] at hl
      have HL : Hid (_ = _) := hl
      clear hl e1
      cases hm : ((relT k).toList == s.toList)
      · have HN : Hid (look relT s 1 6 = look relT s (k + 1) (7 - (k + 1))) := by
          show _ = _
          rw [HL.out, look_miss _ _ _ _ hm, show 7 - (k + 1) = 6 - k by omega]
        go_wp2
        go_round
        case rel => exact ⟨k + 1, by omega, by omega, by go_num, HN.out⟩
        case measure => simp [intOf]; omega
      · have HN : Hid (look relT s 1 6 = k) := by
          show _ = _
          rw [HL.out, look_hit _ _ _ _ hm]
        go_wp2
        go_ret2
        refine ⟨?_, rfl⟩
        rw [HN.out, show lookE 11 k = 0 from if_neg (by omega)]
        rfl
    · have e1 : k = 7 := by omega
      subst e1
      have HN : Hid (look relT s 1 6 = 0) := hl
      clear hl
      go_wp2
      go_ret2
      refine ⟨?_, rfl⟩
      rw [HN.out]
      rfl
end Go.Proofs.YtdmfkepnopppaaaGreatDoor
