import Derived.Test.YtmcchconnfoffacDoorCmMk
namespace Go.Proofs.YtmcchconnfoffacDoor
open Go.RowKit
set_option maxHeartbeats 3200000 in
set_option maxRecDepth 1000000 in
theorem makesWalk (w : World) (hT : TR w) {am : Option Addr} {ms : List Mk} (hm : ML w am ms) (_hmo : ∀ q ∈ ms, q.ok) (hml : ms.length ≤ 9223372036854775807) (cm : Nat) :
    Calls Tryd.prog 3 #[.slice am ms.length cm] w fun e w' => e = .returned (.bool true) ∧ Below w.heap.size w w' := by
  have hn : Calls Tryd.prog 4 #[.int .i64 4, .int .i64 1] w fun e w' => ∃ b, e = .returned (.tuple #[.pointer (some ⟨b, 0, none⟩), .int .i64 0]) ∧ w.heap.size ≤ b ∧ Mg w' b 4 1 ∧ Keeps (fun _ => False) w w' := new4 w ⟨by omega, by omega⟩
  have ht4 : ∀ {W b}, Mg W b 4 1 → TR W → Calls Tryd.prog 6 #[.pointer (some ⟨b, 0, none⟩), .agg #[.int .i64 4, .int .i64 1]] W fun e w' => e = .returned (.bool true) ∧ Keeps (fun _ => False) W w' := fun M t => tells_ok M t
  go_enter Tryd.func3, Tryd.ntmps3
  go_wp2_with (first | (go_at_call 4; refine hn.mono ?_; clear hn; rintro e w1 ⟨b, rfl, hb, M, k1⟩; have htt := ht4 M (hT.keep k1)) | (go_at_call 5; refine (num_any _ _).mono ?_; rintro e w2 ⟨rfl, rfl⟩) | (go_at_call 6; refine htt.mono ?_; clear htt; rintro e w3 ⟨rfl, k3⟩))
  have M3 := M.keep k3
  have K3 := k1.trans k3
  clear M k1 k3 hb
  go_loopw [28] (fun iv W => ∃ j : Nat, j ≤ ms.length ∧ iv = .int .i64 (j : Int) ∧ Mg W b 4 1 ∧ Keeps (fun _ => False) w W) (fun iv _ => ms.length - (intOf iv).toNat)
  case atStart => exact ⟨0, Nat.zero_le _, rfl, M3, K3⟩
  case round =>
    obtain ⟨j, hj, rfl, M4, K4⟩ := hrel
    clear M3 K3
    by_cases hlt : j < ms.length
    · have hltI : (j : Int) < (ms.length : Int) := by omega
      obtain ⟨bm, off, rfl, hbm, hcm⟩ := (hm.keep K4).some (by omega)
      obtain ⟨d0, d1⟩ := hcm j hlt
      generalize ms.getD j mk0 = q at *
      clear hcm
      by_cases hok : okMk q
      · obtain ⟨k0, kk, kp⟩ := hok
        obtain ⟨kd, p⟩ := q
        simp only at k0 kk kp d0 d1
        obtain ⟨k, rfl⟩ := Int.eq_ofNat_of_zero_le k0
        have hk5 : k < 5 := by omega
        clear k0 kk
        go_wp2_with fail
        refine (made_ok _ hk5 kp).mono ?_
        rintro e w5 ⟨mb, rfl, hmb, M5, k5⟩
        have e0 := k5.cell (p := ⟨wr.heap.size, 0, none⟩) (v := .int .i64 (k : Int)) (by simp) id
        have e1 := k5.cell (p := ⟨wr.heap.size, 1, none⟩) (v := .int .i64 p) (by simp) id
        have kw := ((Keeps.refl (fun _ => False) wr).alloc _).trans k5
        have K5 := K4.trans kw
        have M6 := M4.keep kw
        have ht := tells_ok M5 (hT.keep K5)
        clear kw k5 K4 M4 M5 d0 d1 hmb kp hk5 ht4
        go_wp2_with (go_at_call 6; refine ht.mono ?_; clear ht; rintro e w7 ⟨rfl, k7⟩)
        go_roundw
        case rel => exact ⟨j + 1, by omega, by go_num, M6.keep k7, K5.trans k7⟩
        case measure => simp [intOf]; omega
      · have hmade := made_no (wr.alloc (.cells #[.int .i64 q.kind, .int .i64 q.pat] 30)) hok
        obtain ⟨kd, p⟩ := q
        simp only at d0 d1 hmade
        clear hok ht4
        go_wp2_with fail
        refine hmade.mono ?_
        clear hmade
        rintro e w5 ⟨rfl, k5⟩
        have kw := ((Keeps.refl (fun _ => False) wr).alloc _).trans k5
        have K5 := K4.trans kw
        have M6 := M4.keep kw
        clear kw k5 d0 d1
        go_wp2_with fail
        go_roundw
        case rel => exact ⟨j + 1, by omega, by go_num, M6, K5⟩
        case measure => simp [intOf]; omega
    · have hge : decide ((j : Int) < (ms.length : Int)) = false := by simp; omega
      have hgn : decide (j < ms.length) = false := by simp; omega
      have htt := ht4 M4 (hT.keep K4)
      go_wp2_with (go_at_call 6; refine htt.mono ?_; clear htt; rintro e w7 ⟨rfl, k7⟩)
      go_ret
      exact ⟨rfl, (K4.trans k7).below (Nat.le_refl _) (fun _ _ e => e)⟩
end Go.Proofs.YtmcchconnfoffacDoor
