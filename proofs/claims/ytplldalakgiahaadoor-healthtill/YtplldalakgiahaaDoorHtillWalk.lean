/- The law HealthTill, of what came in. -/
import Derived.Test.YtplldalakgiahaaDoorHStepP
import Derived.Test.YtplldalakgiahaaDoorHealthOpen
namespace Go.Proofs.YtplldalakgiahaaDoor
open Go.ChangeShapes Go.WideShapes Go.ChangeAt Go.RowKit
namespace healthTill
open Bw
theorem walk (h : Hl) (w : World) (hL : laidMet Tryd.prog Rows.healthTillRow.laid w) :
    Calls Tryd.prog 4 #[hV h] w fun e w' => e = .returned (.bool true) ∧ Below w.heap.size w w' :=
  htill_any stepP_any hstate_any tillP_any h w (chg_of hL (by simp [Rows.healthTillRow]))
end healthTill
end Go.Proofs.YtplldalakgiahaaDoor
