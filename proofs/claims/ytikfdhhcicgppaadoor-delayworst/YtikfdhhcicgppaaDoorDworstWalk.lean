/- The law DelayWorst, as the row asks it. -/
import Derived.Test.YtikfdhhcicgppaaDoorDwOk
import Derived.Test.YtikfdhhcicgppaaDoorDlOpen
import Derived.Test.YtikfdhhcicgppaaDoorC22
namespace Go.Proofs.YtikfdhhcicgppaaDoor
open Go.ChangeShapes Go.WideShapes Go.ChangeAt Go.RowKit
namespace delayWorst
open Bw
theorem walk (a : Option Addr) (n c : Nat) (l : List Tk) (w : World) (hT : IsTks w a n c l) (hL : laidMet Tryd.prog Rows.delayWorstRow.laid w) :
    Calls Tryd.prog 3 #[.slice a n c] w fun e w' => e = .returned (.bool true) ∧ Below w.heap.size w w' := by
  have hS := sizes_of hL (by simp [Rows.delayWorstRow])
  have hR := rules_of hL (by simp [Rows.delayWorstRow])
  by_cases h : chkT l = 0
  · exact dworst_ok a n c l w hT hS hR (bruijn_of hL (by simp [Rows.delayWorstRow])) h
  · exact dworst_bad a n c l w hT hS hR h
end delayWorst
end Go.Proofs.YtikfdhhcicgppaaDoor
