import Derived.Test.YtanmpioplckgbaaDoorLgF
namespace Go.Proofs.YtanmpioplckgbaaDoor
open Go.RowKit
attribute [local go_sem] Oper.semAt_some run_store_nf run_store_f
theorem iRn : (Tryd.prog.info? 42).map (·.size) = some 11 := by kernel_rfl
set_option maxHeartbeats 500000 in
set_option maxRecDepth 100000 in
theorem rcheck_any {w : World} {a : Option Addr} {cap : Nat} {l : List Ins} (hl : ISL w a l) (hlen : l.length ≤ 9223372036854775807) : Calls Tryd.prog 15 #[.slice a l.length cap] w fun e w' => e = .returned (.tuple #[.int .i64 (chk l).1, .int .i64 (chk l).2]) ∧ Keeps (fun _ => False) w w' := by
  unfold chk
  by_cases h64 : 64 < l.length
  · rw [if_pos h64]
    have b1 : decide ((64 : Int) < (l.length : Int)) = true := by simp; omega
    have b2 : decide (64 < l.length) = true := by simp; omega
    go_enter Tryd.func15, Tryd.ntmps15
    go_wp2
    go_ret2
    exact ⟨rfl, Keeps.refl _ w⟩
  · rw [if_neg h64]
    have b1 : decide ((64 : Int) < (l.length : Int)) = false := by simp; omega
    have b2 : decide (64 < l.length) = false := by simp; omega
    have hN64 : l.length ≤ 64 := by omega
    clear h64
    generalize hF : firstBad l l.length l.length = F at *
    generalize hN : l.length = N at *
    go_enter Tryd.func15, Tryd.ntmps15
    go_wp2_with fail
    go_loopw [4] (fun iv Wr => ∃ k : Nat, iv = .int .i64 (k : Int) ∧ k ≤ N ∧ firstBad l N (N - k) = F ∧ Keeps (fun _ => False) w Wr) (fun iv _ => N - (intOf iv).toNat)
    case atStart => exact ⟨0, rfl, Nat.zero_le _, hF, Keeps.refl _ w⟩
    case round =>
      obtain ⟨k, rfl, hk, hf, kr⟩ := hrel
      by_cases hlt : k < N
      · have hltI : decide ((k : Int) < (N : Int)) = true := by simp; omega
        have hltJ : (k : Int) < (N : Int) := by omega
        obtain ⟨b, off, rfl, hc⟩ := hl k (by omega)
        have hc' : ∀ j v, (l.getD k ins0).cells[j]? = some v → wr.cell? ⟨b, off + k * 11 + j, none⟩ = some v := fun j v e => kr.cell (hc j v e) (fun e => e)
        have hR1 := run_insAt (t := 42) hc' ⟨_, Tryd.underlying42⟩ iRn
        have hfb : Hid (_ = _) := fb_lt (l := l) (n := (N : Int)) (k := k) (by omega)
        rw [hN] at hfb
        have hff : Hid (_ = _) := hf
        generalize l.getD k ins0 = q at *
        have hcan := rcan_any wr q (N : Int)
        have hnx : Hid (_ = _) := hfb.out.symm.trans hff.out
        clear hfb hff hf hc hc' hF
        cases hb : q.can N with
        | true =>
          have HN : Hid (firstBad l N (N - (k + 1)) = F) := by
            show _ = _
            rw [← hnx.out, hb]; rfl
          rw [hb] at hcan
          go_wp2_with (first | (refine wpList_load_run rfl 42 _ rfl ⟨b, off + k * 11, none⟩ rfl _ hR1 ?_; clear hR1) | (go_at_call 29; refine hcan.mono ?_; rintro e w6 ⟨rfl, k6⟩))
          go_roundw
          case rel => exact ⟨k + 1, by go_num, by omega, HN.out, kr.trans k6⟩
          case measure => simp [intOf]; omega
        | false =>
          have HN : Hid (F = some k) := by
            show _ = _
            rw [← hnx.out, hb]; rfl
          rw [hb] at hcan
          go_wp2_with (first | (refine wpList_load_run rfl 42 _ rfl ⟨b, off + k * 11, none⟩ rfl _ hR1 ?_; clear hR1) | (go_at_call 29; refine hcan.mono ?_; rintro e w6 ⟨rfl, k6⟩))
          go_ret2
          exact ⟨by rw [HN.out]; rfl, kr.trans k6⟩
      · obtain rfl : k = N := by omega
        have hltI : decide ((k : Int) < (k : Int)) = false := by simp
        rw [Nat.sub_self] at hf
        subst hf
        go_wp2_with fail
        go_ret2
        exact ⟨rfl, kr⟩
end Go.Proofs.YtanmpioplckgbaaDoor
