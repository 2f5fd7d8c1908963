import Derived.Test.YthmoimilhbmagabDoorNames
namespace Go.Proofs.YthmoimilhbmagabDoor
open Go.ChangeShapes Go.WideShapes Go.ChangeAt Go.RowKit

set_option maxHeartbeats 1000000 in
theorem called_walk (op : Int) (s : ByteArray) (w : World) (ho : Hid (∀ i, i < 13 → w.cell? ⟨0, i, none⟩ = some (.string (opT i)))) (hr : Hid (∀ i, i < 7 → w.cell? ⟨1, i, none⟩ = some (.string (relT i)))) :
    Calls Tryd.prog 3 #[.int .i64 op, .string s] w fun e w' => e = .returned (.bool true) ∧ w' = w := by
  have x1 : nameAt opT 12 8 = ⟨#[120, 111, 114]⟩ := rfl
  have x2 : nameAt relT 6 2 = ⟨#[33, 61]⟩ := rfl
  go_enter Tryd.func3, Tryd.ntmps3
  go_wp2_with (first | (go_at_call 4; refine (opName_any _ _ ho.out).mono ?_; rintro e w' ⟨rfl, rfl⟩) | (go_at_call 5; refine (relName_any _ _ hr.out).mono ?_; rintro e w' ⟨rfl, rfl⟩) | (go_at_call 6; refine (ropName_any _ _).mono ?_; rintro e w' ⟨rfl, rfl⟩) | (go_at_call 7; refine (rrelName_any _ _).mono ?_; rintro e w' ⟨rfl, rfl⟩) | (go_at_call 8; refine (opNamed_any _ _ ho).mono ?_; rintro e w' ⟨rfl, rfl⟩) | (go_at_call 10; refine (relNamed_any _ _ hr).mono ?_; rintro e w' ⟨rfl, rfl⟩) | (go_at_call 9; refine (ropNamed_any _ _).mono ?_; rintro e w' ⟨rfl, rfl⟩) | (go_at_call 11; refine (rrelNamed_any _ _).mono ?_; rintro e w' ⟨rfl, rfl⟩))
  go_ret
  exact ⟨rfl, rfl⟩
end Go.Proofs.YthmoimilhbmagabDoor
