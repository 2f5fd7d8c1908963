import Derived.Test.YtmcchconnfoffabCmR
namespace Go.Proofs.Ytmcchconnfoffab
open Go.RowKit
/-- The document's comparison is the sum's. -/
theorem above_outr {m t th : Int} (hm : In64 m) (ht : In64 t) (hth : In64 th) (h0 : 0 ≤ t) : decide (th < clamp (m + t)) = (if th = 9223372036854775807 then false else if th < m then true else decide (th - m < t)) := by
  unfold In64 at hm ht hth
  unfold clamp
  by_cases h1 : th = 9223372036854775807
  · rw [if_pos h1]; simp; split <;> omega
  · rw [if_neg h1]
    by_cases h2 : th < m
    · rw [if_pos h2]; simp; split <;> omega
    · rw [if_neg h2]
      congr 1
      simp only [eq_iff_iff]
      split <;> omega
set_option maxHeartbeats 800000 in
theorem rabove_any (w : World) {m t th : Int} (hm : In64 m) (ht : In64 t) (hth : In64 th) (h0 : 0 ≤ t) : Calls Try.prog 27 #[.int .i64 m, .int .i64 t, .int .i64 th] w fun e w' => e = .returned (.bool (decide (th < clamp (m + t)))) ∧ w' = w := by
  rw [above_outr hm ht hth h0]
  by_cases h1 : th = 9223372036854775807
  · rw [if_pos h1]
    subst h1
    go_enter Try.func27, Try.ntmps27
    go_wp2
    go_ret
    exact ⟨rfl, rfl⟩
  · rw [if_neg h1]
    have h1' : (th == 9223372036854775807) = false := by simp [h1]
    by_cases h2 : th < m
    · rw [if_pos h2]
      go_enter Try.func27, Try.ntmps27
      go_wp2
      go_ret
      exact ⟨rfl, rfl⟩
    · rw [if_neg h2]
      unfold In64 at hm ht hth
      have e1 : IntKind.u64.wrap t = t := by rw [IntKind.wrap_u64]; omega
      have e2 : IntKind.u64.wrap (IntKind.u64.wrap th - IntKind.u64.wrap m) = th - m := by rw [IntKind.wrap_u64, IntKind.wrap_u64, IntKind.wrap_u64]; omega
      go_enter Try.func27, Try.ntmps27
      go_wp2
      go_ret
      exact ⟨rfl, rfl⟩
end Go.Proofs.Ytmcchconnfoffab
