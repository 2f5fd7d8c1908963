import Derived.Test.YtkebpelpjkgdkaaQueE
namespace Go.Proofs.Ytkebpelpjkgdkaa
open Go.RowKit Go.Maps

set_option maxHeartbeats 800000 in
set_option maxRecDepth 1000000 in
theorem ordNames_walk (w : World) : Calls Try.prog 7 #[] w fun e w' => e = .returned (.bool true) ∧ Below w.heap.size w w' := by
  go_enter Try.func7, Try.ntmps7
  go_wp2_with fail
  refine (head_any w).mono ?_
  rintro e w1 ⟨rfl, k⟩
  go_wp2
  go_ret
  exact ⟨rfl, k.below (Nat.le_refl _) (fun _ _ e => e)⟩
end Go.Proofs.Ytkebpelpjkgdkaa
