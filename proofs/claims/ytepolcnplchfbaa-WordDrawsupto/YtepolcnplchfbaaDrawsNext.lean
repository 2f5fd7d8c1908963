import Derived.Test.YtepolcnplchfbaaDraws
import Derived.Test.YtepolcnplchfbaaBitFacts
namespace Go.Proofs.Ytepolcnplchfbaa
open Go.ChangeShapes Go.WideShapes Go.ChangeAt Go.RowKit

set_option maxHeartbeats 1000000 in
theorem next_some {w : World} {b r n k : Nat} {x : Nat → Int} (h : IsDr w b r n x k) (hk : k < n) :
    Calls Try.prog 8 #[.pointer (some ⟨b, 0, none⟩)] w fun e w' => e = .returned (.int .i64 (x k)) ∧ ∃ m, w' = (w.setCell ⟨b, 1, none⟩ (.int .i64 ((k : Int) + 1))).drewN m := by
  have H : Hid (IsDr w b r n x k) := h
  have h1 := h.taken
  have h2 := h.row
  have h3 := h.le
  have h4 := h.small
  have h5 := h.free
  have h6 := h.nums k hk
  have h7 : ((n : Int) - (k : Int) == 0) = false := by simp; omega
  clear h
  go_enter Try.func8, Try.ntmps8
  go_wp2_with (go_at_call 14; refine (left_any H.out).mono ?_; rintro e w1 ⟨rfl, m, rfl⟩)
  go_quiet (fail)
  go_wp2
  go_ret
  exact ⟨rfl, _, rfl⟩
theorem next_none {w : World} {b r n k : Nat} {x : Nat → Int} (h : IsDr w b r n x k) (hk : k = n) :
    Calls Try.prog 8 #[.pointer (some ⟨b, 0, none⟩)] w fun e w' => e = .returned (.int .i64 0) ∧ ∃ m, w' = w.drewN m := by
  have H : Hid (IsDr w b r n x k) := h
  have h7 : ((n : Int) - (k : Int) == 0) = true := by simp; omega
  clear h hk
  go_enter Try.func8, Try.ntmps8
  go_wp2_with (go_at_call 14; refine (left_any H.out).mono ?_; rintro e w1 ⟨rfl, m, rfl⟩)
  go_ret
  exact ⟨rfl, _, rfl⟩
theorem below_low (p : Option Addr) (t : Int) (h : t ≤ 1) (w : World) :
    Calls Try.prog 10 #[.pointer p, .int .i64 t] w fun e w' => e = .returned (.int .i64 0) ∧ w' = w := by
  go_enter Try.func10, Try.ntmps10
  go_wp2
  go_ret
  exact ⟨rfl, rfl⟩
/-- An unsigned rest. -/
def urem (x t : Int) : Int := wrap64 ((IntKind.u64.wrap x).tmod (IntKind.u64.wrap t))
set_option maxHeartbeats 1000000 in
theorem below_some {w : World} {b r n k : Nat} {x : Nat → Int} (h : IsDr w b r n x k) (hk : k < n) (t : Int) (ht : 1 < t) (ht2 : In64 t) :
    Calls Try.prog 10 #[.pointer (some ⟨b, 0, none⟩), .int .i64 t] w fun e w' => e = .returned (.int .i64 (urem (x k) t)) ∧ ∃ m, w' = (w.setCell ⟨b, 1, none⟩ (.int .i64 ((k : Int) + 1))).drewN m := by
  have H : Hid (IsDr w b r n x k) := h
  have hz : ¬ (IntKind.u64.wrap t = 0) := by rw [IntKind.wrap_u64]; unfold In64 at ht2; omega
  clear h
  go_enter Try.func10, Try.ntmps10
  go_wp2_with (go_at_call 8; refine (next_some H.out hk).mono ?_; rintro e w1 ⟨rfl, m, rfl⟩)
  go_ret
  exact ⟨rfl, _, rfl⟩
set_option maxHeartbeats 1000000 in
theorem below_none {w : World} {b r n k : Nat} {x : Nat → Int} (h : IsDr w b r n x k) (hk : k = n) (t : Int) (ht : 1 < t) (ht2 : In64 t) :
    Calls Try.prog 10 #[.pointer (some ⟨b, 0, none⟩), .int .i64 t] w fun e w' => e = .returned (.int .i64 0) ∧ ∃ m, w' = w.drewN m := by
  have H : Hid (IsDr w b r n x k) := h
  have hz : ¬ (IntKind.u64.wrap t = 0) := by rw [IntKind.wrap_u64]; unfold In64 at ht2; omega
  have HK : Hid (k = n) := hk
  clear h hk
  go_enter Try.func10, Try.ntmps10
  go_wp2_with (go_at_call 8; refine (next_none H.out HK.out).mono ?_; rintro e w1 ⟨rfl, m, rfl⟩)
  go_ret
  exact ⟨rfl, _, rfl⟩
end Go.Proofs.Ytepolcnplchfbaa
