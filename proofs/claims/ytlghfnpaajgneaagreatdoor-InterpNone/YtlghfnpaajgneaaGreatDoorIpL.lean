import Derived.Test.YtlghfnpaajgneaaGreatDoorIpA
import Derived.Test.YtlghfnpaajgneaaGreatDoorTie
import Derived.Test.YtlghfnpaajgneaaGreatDoorCards
import Derived.ProofKit
import Derived.LaidMore
import Derived.OpenShut
import Derived.ChangeArms
import Derived.Stop.Joined
import Derived.Lay
namespace Go.Proofs.YtlghfnpaajgneaaGreatDoor
open Go.ChangeShapes Go.WideShapes Go.ChangeAt Go.RowKit
theorem own : ownKnob Tryz.prog.godebug = none := by kernel_rfl
def laid1 : List (String × DataW Unit) := [("braid/cm.traits", Rows.laid_braid_cm_traits)]
end Go.Proofs.YtlghfnpaajgneaaGreatDoor
