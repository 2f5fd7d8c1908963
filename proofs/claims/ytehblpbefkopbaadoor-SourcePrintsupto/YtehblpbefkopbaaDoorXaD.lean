import Derived.Test.YtehblpbefkopbaaDoorXaC
import Derived.Test.YtehblpbefkopbaaDoorXaB
import Derived.Test.YtehblpbefkopbaaDoorParseW
import Derived.Shelf.Strings.SlTrimAscii
namespace Go.Proofs.YtehblpbefkopbaaDoor
open Go.RowKit
attribute [local go_sem] Oper.semAt_some run_store_nf run_store_f
theorem isL_any (w : World) (b : UInt8) : Calls Tryd.prog 66 #[.int .u8 (b.toNat : Int)] w fun e w' => e = .returned (.bool (isL b)) ∧ w' = w := by
  have e : isL b = (decide (97 ≤ b.toNat) && decide (b.toNat ≤ 122)) := rfl
  rw [e]
  generalize b.toNat = n
  by_cases h1 : 97 ≤ n
  · have d1 : decide ((97 : Int) ≤ (n : Int)) = true := by simp; omega
    rw [decide_eq_true h1]
    by_cases h2 : n ≤ 122
    · have d2 : decide ((n : Int) ≤ (122 : Int)) = true := by simp; omega
      rw [decide_eq_true h2]
      go_enter Tryd.func66, Tryd.ntmps66
      go_wp2
      go_ret
      exact ⟨rfl, rfl⟩
    · have d2 : decide ((n : Int) ≤ (122 : Int)) = false := by simp; omega
      rw [decide_eq_false h2]
      go_enter Tryd.func66, Tryd.ntmps66
      go_wp2
      go_ret
      exact ⟨rfl, rfl⟩
  · have d1 : decide ((97 : Int) ≤ (n : Int)) = false := by simp; omega
    rw [decide_eq_false h1]
    go_enter Tryd.func66, Tryd.ntmps66
    go_wp2
    go_ret
    exact ⟨rfl, rfl⟩
theorem isD_any (w : World) (b : UInt8) : Calls Tryd.prog 77 #[.int .u8 (b.toNat : Int)] w fun e w' => e = .returned (.bool (digB b)) ∧ w' = w := by
  have e : digB b = (decide (48 ≤ b.toNat) && decide (b.toNat ≤ 57)) := rfl
  rw [e]
  generalize b.toNat = n
  by_cases h1 : 48 ≤ n
  · have d1 : decide ((48 : Int) ≤ (n : Int)) = true := by simp; omega
    rw [decide_eq_true h1]
    by_cases h2 : n ≤ 57
    · have d2 : decide ((n : Int) ≤ (57 : Int)) = true := by simp; omega
      rw [decide_eq_true h2]
      go_enter Tryd.func77, Tryd.ntmps77
      go_wp2
      go_ret
      exact ⟨rfl, rfl⟩
    · have d2 : decide ((n : Int) ≤ (57 : Int)) = false := by simp; omega
      rw [decide_eq_false h2]
      go_enter Tryd.func77, Tryd.ntmps77
      go_wp2
      go_ret
      exact ⟨rfl, rfl⟩
  · have d1 : decide ((48 : Int) ≤ (n : Int)) = false := by simp; omega
    rw [decide_eq_false h1]
    go_enter Tryd.func77, Tryd.ntmps77
    go_wp2
    go_ret
    exact ⟨rfl, rfl⟩
theorem isLD_any (w : World) (b : UInt8) : Calls Tryd.prog 76 #[.int .u8 (b.toNat : Int)] w fun e w' => e = .returned (.bool (isLD b)) ∧ w' = w := by
  have hL := fun W => isL_any W b
  have hD := fun W => isD_any W b
  unfold isLD
  generalize isL b = x at *
  generalize digB b = y at *
  generalize (b.toNat : Int) = n at *
  cases x <;>
  (go_enter Tryd.func76, Tryd.ntmps76
   go_wp2_with (first | (go_at_call 66; refine (hL _).mono ?_; rintro e w' ⟨rfl, rfl⟩) | (go_at_call 77; refine (hD _).mono ?_; rintro e w' ⟨rfl, rfl⟩))
   go_ret
   exact ⟨rfl, rfl⟩)
end Go.Proofs.YtehblpbefkopbaaDoor
