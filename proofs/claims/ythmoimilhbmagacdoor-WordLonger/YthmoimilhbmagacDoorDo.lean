import Derived.Test.YthmoimilhbmagacDoorApplied
namespace Go.Proofs.YthmoimilhbmagacDoor
open Go.ChangeShapes Go.WideShapes Go.ChangeAt Go.RowKit

/-- Calc.do at an operator of the table: its answer; Bad is not written. -/
theorem do_any (p : Option Addr) (op a b : Int) (h : 1 ≤ op ∧ op ≤ 12) {B : Nat} {W w : World} (hk : Kept B W w) :
    Calls Tryd.prog 10 #[.pointer p, .int .i64 op, .int .i64 a, .int .i64 b] w fun e w' => e = .returned (.int .i64 (ap op a b)) ∧ Kept B W w' := by
  have H : Hid (1 ≤ op ∧ op ≤ 12) := h
  have HK : Hid (Kept B W w) := hk
  clear h hk
  go_enter Tryd.func10, Tryd.ntmps10
  go_wp2_with (go_at_call 17; refine (apply_any _ _ _ H.out _).mono ?_; rintro e w' ⟨rfl, hb⟩)
  go_ret
  exact ⟨rfl, HK.out.step hb⟩

theorem fixed_any {B : Nat} {W w : World} (hk : Kept B W w) :
    Calls Tryd.prog 12 #[] w fun e w' => e = .returned (.bool true) ∧ Kept B W w' := by
  have HK : Hid (Kept B W w) := hk
  have h1 : (ap 2 3 10 == -7) = true := by decide +kernel
  clear hk
  go_enter Tryd.func12, Tryd.ntmps12
  go_wp2_with (go_at_call 17; refine (apply_any _ _ _ (by decide) _).mono ?_; rintro e w' ⟨rfl, hb⟩)
  go_ret
  exact ⟨rfl, HK.out.step hb⟩
end Go.Proofs.YthmoimilhbmagacDoor
