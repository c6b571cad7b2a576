/- What frame.bit answers. -/
import Derived.Test.YthdffdobkampaaaDoorFrameOk
import Derived.Test.YthdffdobkampaaaDoorFrSmall
namespace Go.Proofs.YthdffdobkampaaaDoor
open Go.ChangeShapes Go.WideShapes Go.ChangeAt Go.RowKit
namespace Bw
open Bm Cm
set_option maxHeartbeats 1000000 in
theorem frBit_any (r : Bool) (w : World) :
    Calls Tryd.prog 57 #[.bool r] w fun e w' => e = .returned (.string ⟨#[bitB r]⟩) ∧ w' = w := by
  cases r <;> (go_enter Tryd.func57, Tryd.ntmps57; go_wp2_with fail; go_ret; exact ⟨rfl, rfl⟩)
end Bw
end Go.Proofs.YthdffdobkampaaaDoor
