/- The law HealthTill, of what came in. -/
import Derived.Test.YtdhmjbnpdmneiadDoorHStepP
import Derived.Test.YtdhmjbnpdmneiadDoorHealthOpen
namespace Go.Proofs.YtdhmjbnpdmneiadDoor
open Go.ChangeShapes Go.WideShapes Go.ChangeAt Go.RowKit
namespace healthTill
open Bw
theorem walk (h : Hl) (w : World) (hL : laidMet Tryd.prog Rows.healthTillRow.laid w) :
    Calls Tryd.prog 6 #[hV h] w fun e w' => e = .returned (.bool true) ∧ Below w.heap.size w w' :=
  htill_any stepP_any hstate_any tillP_any h w (chg_of hL (by simp [Rows.healthTillRow]))
end healthTill
end Go.Proofs.YtdhmjbnpdmneiadDoor
