/- The law HealthStep, of what came in. -/
import Derived.Test.YtdhmjbnpdmneiadDoorHStepP
import Derived.Test.YtdhmjbnpdmneiadDoorHealthOpen
namespace Go.Proofs.YtdhmjbnpdmneiadDoor
open Go.ChangeShapes Go.WideShapes Go.ChangeAt Go.RowKit
namespace healthStep
open Bw
theorem walk (h : Hl) (p : Option Addr) (n c : Nat) (zs : List Int) (w : World) (hz : IsRow .i64 w p n c zs) (hL : laidMet Tryd.prog Rows.healthStepRow.laid w) :
    Calls Tryd.prog 5 #[hV h, .slice p n c] w fun e w' => e = .returned (.bool true) ∧ Below w.heap.size w w' :=
  hstep_any stepP_any hstate_any hcheck_any h p n c (zs.take n) w (numsH_of hz (chg_of hL (by simp [Rows.healthStepRow])))
end healthStep
end Go.Proofs.YtdhmjbnpdmneiadDoor
