import Derived.Test.YtdldhblhbbgloaaLocHead
namespace Go.Proofs.Ytdldhblhbbgloaa
open Go.RowKit
set_option maxHeartbeats 800000 in
set_option maxRecDepth 1000000 in
theorem locatorNames_walk (W : World) : Calls Try.prog 3 #[] W fun e w' => e = .returned (.bool true) ∧ Below W.heap.size W w' := by
  have hh := head_any W
  go_enter Try.func3, Try.ntmps3
  go_wp2_with (go_at_call 9; refine hh.mono ?_; clear hh; rintro e w1 ⟨rfl, k1⟩)
  go_ret
  exact ⟨rfl, k1.below (Nat.le_refl _) (fun _ _ e => e)⟩
end Go.Proofs.Ytdldhblhbbgloaa
