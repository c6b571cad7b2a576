/- The law HealthRests, of what came in. -/
import Derived.Test.YtemjjkjceeljbaaDoorHrestLaw
import Derived.Test.YtemjjkjceeljbaaDoorHStepP
import Derived.Test.YtemjjkjceeljbaaDoorHealthOpen
namespace Go.Proofs.YtemjjkjceeljbaaDoor
open Go.ChangeShapes Go.WideShapes Go.ChangeAt Go.RowKit
namespace healthRests
open Bw
theorem walk (h : Hl) (p : Option Addr) (n c : Nat) (zs : List Int) (w : World) (hz : IsRow .i64 w p n c zs) (hL : laidMet Tryd.prog Rows.healthRestsRow.laid w) :
    Calls Tryd.prog 5 #[hV h, .slice p n c] w fun e w' => e = .returned (.bool true) ∧ Below w.heap.size w w' :=
  hrest_any stepP_any hstate_any hcheck_any h p n c (zs.take n) w (numsH_of hz (chg_of hL (by simp [Rows.healthRestsRow])))
end healthRests
end Go.Proofs.YtemjjkjceeljbaaDoor
