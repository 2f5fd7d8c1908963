import Derived.Test.YteomlhcllmlkpaaGreatDoorTxQ
namespace Go.Proofs.YteomlhcllmlkpaaGreatDoor
open Go.RowKit
set_option maxHeartbeats 800000 in
set_option maxRecDepth 1000000 in
theorem txnNames_walk (W : World) (hT : TR W) : Calls Tryz.prog 3 #[] W fun e w' => e = .returned (.bool true) ∧ Below W.heap.size W w' := by
  have hh := head_any W hT
  go_enter Tryz.func3, Tryz.ntmps3
  go_wp2_with (go_at_call 4; refine hh.mono ?_; clear hh; rintro e w1 ⟨rfl, k1⟩)
  go_ret
  exact ⟨rfl, k1.below (Nat.le_refl _) (fun _ _ e => e)⟩
end Go.Proofs.YteomlhcllmlkpaaGreatDoor
