import Derived.Test.YtepolcnplchfbaaFacts
import Derived.Test.YtepolcnplchfbaaRows
import Derived.OpenShut
import Derived.WalkLawsBesides
import Derived.Deep.QuietTactic
import Derived.BigQuiet
namespace Go.Proofs.Ytepolcnplchfbaa
open Go.ChangeShapes Go.WideShapes Go.ChangeAt Go.RowKit

/-- A stream of draws in memory: the raw numbers of row r, and how many were taken. -/
structure IsDr (w : World) (b r : Nat) (n : Nat) (x : Nat → Int) (k : Nat) : Prop where
  row : w.cell? ⟨b, 0, none⟩ = some (.slice (some ⟨r, 0, none⟩) n n)
  taken : w.cell? ⟨b, 1, none⟩ = some (.int .i64 (k : Int))
  free : w.frozen? ⟨b, 1, none⟩ = false
  nums : ∀ i, i < n → w.cell? ⟨r, i, none⟩ = some (.int .i64 (x i))
  le : k ≤ n
  small : n ≤ 140737488351232

theorem taken_any {w : World} {b r n k : Nat} {x : Nat → Int} (h : IsDr w b r n x k) :
    Calls Try.prog 12 #[.pointer (some ⟨b, 0, none⟩)] w fun e w' => e = .returned (.int .i64 (k : Int)) ∧ w' = w := by
  have h1 := h.taken
  clear h
  go_enter Try.func12, Try.ntmps12
  go_wp2
  go_ret
  exact ⟨rfl, rfl⟩
theorem left_any {w : World} {b r n k : Nat} {x : Nat → Int} (h : IsDr w b r n x k) :
    Calls Try.prog 14 #[.pointer (some ⟨b, 0, none⟩)] w fun e w' => e = .returned (.int .i64 ((n : Int) - (k : Int))) ∧ ∃ m, w' = w.drewN m := by
  have h1 := h.taken
  have h2 := h.row
  have h3 := h.le
  have h4 := h.small
  clear h
  go_enter Try.func14, Try.ntmps14
  go_wp2
  go_quiet (fail)
  go_wp2
  go_ret
  exact ⟨rfl, _, rfl⟩
end Go.Proofs.Ytepolcnplchfbaa
