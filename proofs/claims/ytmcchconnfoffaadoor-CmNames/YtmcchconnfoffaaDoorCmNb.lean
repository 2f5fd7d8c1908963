import Derived.Test.YtmcchconnfoffaaDoorCmNa
namespace Go.Proofs.YtmcchconnfoffaaDoor
open Go.ChangeShapes Go.WideShapes Go.ChangeAt Go.RowKit
theorem look_self {k : Nat} (hk : k < 5) : look (nmT k) 0 5 = some k := by
  match k, hk with
  | 0, _ | 1, _ | 2, _ | 3, _ | 4, _ => simp [look, nmT, ByteArray.toList_eq]
set_option maxHeartbeats 1600000 in
theorem rnamed_any (w : World) (s : ByteArray) : Calls Tryd.prog 8 #[.string s] w fun e w' => e = .returned (.tuple #[.int .i64 (lkK (look s 0 5)), .int .i64 (lkE (look s 0 5))]) ∧ w' = w := by
  go_enter Tryd.func8, Tryd.ntmps8
  go_wp2_with fail
  go_loop [4] (fun iv => ∃ k : Nat, k ≤ 5 ∧ iv = .int .i64 (k : Int) ∧ look s 0 5 = look s k (5 - k)) (fun iv => 5 - (intOf iv).toNat)
  case atStart => exact ⟨0, by omega, rfl, rfl⟩
  case round =>
    obtain ⟨k, hk, rfl, hlk⟩ := hrel
    by_cases hlt : k < 5
    · have HL : Hid (look s 0 5 = look s k ((4 - k) + 1)) := by
        show _ = _
        rw [hlk, show 5 - k = (4 - k) + 1 by omega]
      have hltI : (k : Int) < 5 := by omega
      have hrn := fun W => rname_any W hlt
      clear hlk
      cases hm : ((nmT k).toList == s.toList)
      · have HN : Hid (look s 0 5 = look s (k + 1) (5 - (k + 1))) := by
          show _ = _
          rw [HL.out, look_miss _ _ _ hm, show 5 - (k + 1) = 4 - k by omega]
        clear HL
        generalize nmT k = nk at *
        go_wp2_with (go_at_call 6; refine (hrn _).mono ?_; rintro e w1 ⟨rfl, rfl⟩)
        go_round
        case rel => exact ⟨k + 1, by omega, by go_num, HN.out⟩
        case measure => simp [intOf]; omega
      · have HN : Hid (look s 0 5 = some k) := by
          show _ = _
          rw [HL.out, look_hit _ _ _ hm]
        clear HL
        generalize nmT k = nk at *
        go_wp2_with (go_at_call 6; refine (hrn _).mono ?_; rintro e w1 ⟨rfl, rfl⟩)
        go_ret2
        refine ⟨?_, rfl⟩
        rw [HN.out]
        rfl
    · obtain rfl : k = 5 := by omega
      have HN : Hid (look s 0 5 = none) := hlk
      clear hlk
      go_wp2_with fail
      go_ret2
      refine ⟨?_, rfl⟩
      rw [HN.out]
      rfl
theorem num_any (w : World) (n : Int) : Calls Tryd.prog 7 #[.int .i64 n] w fun e w' => e = .returned (.int .i64 n) ∧ w' = w := by
  go_enter Tryd.func7, Tryd.ntmps7
  go_wp2
  go_ret
  exact ⟨rfl, rfl⟩
set_option maxHeartbeats 1600000 in
set_option maxRecDepth 1000000 in
theorem namesWalk (w : World) (hT : TR w) (s : ByteArray) : Calls Tryd.prog 3 #[.string s] w fun e w' => e = .returned (.bool true) ∧ Below w.heap.size w w' := by
  go_enter Tryd.func3, Tryd.ntmps3
  go_wp2_with fail
  go_loopw [3] (fun iv W => ∃ k : Nat, k ≤ 5 ∧ iv = .int .i64 (k : Int) ∧ Keeps (fun _ => False) w W) (fun iv _ => 5 - (intOf iv).toNat)
  case atStart => exact ⟨0, by omega, rfl, Keeps.refl _ w⟩
  case round =>
    obtain ⟨k, hk, rfl, K1⟩ := hrel
    have hT1 := hT.keep K1
    by_cases hlt : k < 5
    · have hltI : (k : Int) < 5 := by omega
      have hrn := fun W => rname_any W hlt
      have hna := named_any wr hT1 (nmT k)
      rw [look_self hlt] at hna
      simp only [lkK, lkE] at hna
      generalize nmT k = nk at *
      clear hT1 hT
      go_wp2_with (first | (go_at_call 6; refine (hrn _).mono ?_; rintro e w1 ⟨rfl, rfl⟩) | (go_at_call 5; refine hna.mono ?_; clear hna; rintro e w2 ⟨rfl, k2⟩) | (go_at_call 7; refine (num_any _ _).mono ?_; rintro e w3 ⟨rfl, rfl⟩))
      go_roundw
      case rel => exact ⟨k + 1, by omega, by go_num, K1.trans k2⟩
      case measure => simp [intOf]; omega
    · obtain rfl : k = 5 := by omega
      have hna := named_any wr hT1 s
      have hrn := fun W => rnamed_any W s
      generalize lkK (look s 0 5) = a at *
      generalize lkE (look s 0 5) = b at *
      clear hT1 hT
      go_wp2_with (first | (go_at_call 5; refine hna.mono ?_; clear hna; rintro e w2 ⟨rfl, k2⟩) | (go_at_call 8; refine (hrn _).mono ?_; rintro e w3 ⟨rfl, rfl⟩) | (go_at_call 7; refine (num_any _ _).mono ?_; rintro e w3 ⟨rfl, rfl⟩))
      go_ret
      exact ⟨rfl, (K1.trans k2).below (Nat.le_refl _) (fun _ _ e => e)⟩
end Go.Proofs.YtmcchconnfoffaaDoor
