/- The law DelayMore, as the row asks it. -/
import Derived.Test.YtikfdhhcicgppaaDoorDlMore
import Derived.Test.YtikfdhhcicgppaaDoorDlOpen
import Derived.Test.YtikfdhhcicgppaaDoorC22
namespace Go.Proofs.YtikfdhhcicgppaaDoor
open Go.ChangeShapes Go.WideShapes Go.ChangeAt Go.RowKit
namespace delayMore
open Bw
theorem walk (a : Option Addr) (n c : Nat) (l : List Tk) (t : Tk) (w : World) (hT : IsTks w a n c l) (hn : n * 40 ≤ 140737488351232) (hL : laidMet Tryd.prog Rows.delayMoreRow.laid w) :
    Calls Tryd.prog 4 #[.slice a n c, t.val] w fun e w' => e = .returned (.bool true) ∧ Below w.heap.size w w' :=
  dmore_any a n c l t w hT hn (sizes_of hL (by simp [Rows.delayMoreRow])) (rules_of hL (by simp [Rows.delayMoreRow]))
end delayMore
end Go.Proofs.YtikfdhhcicgppaaDoor
