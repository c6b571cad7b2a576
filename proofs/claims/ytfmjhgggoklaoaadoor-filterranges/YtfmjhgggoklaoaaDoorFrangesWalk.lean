/- The law FilterRanges, of what came in. -/
import Derived.Test.YtfmjhgggoklaoaaDoorFrangesLaw
import Derived.Test.YtfmjhgggoklaoaaDoorLastsRow
namespace Go.Proofs.YtfmjhgggoklaoaaDoor
open Go.ChangeShapes Go.WideShapes Go.ChangeAt Go.RowKit
namespace filterRanges
open Bw
theorem walk (low high : Int) (lo : Bool) (w : World) (_ : (Lit.int .i64 low).wf = true) (_ : (Lit.int .i64 high).wf = true) (hL : laidMet Tryd.prog Rows.filterRangesRow.laid w) :
    Calls Tryd.prog 6 #[.int .i64 low, .int .i64 high, .bool lo] w fun e w' => e = .returned (.bool true) ∧ Below w.heap.size w w' :=
  franges_any low high lo w (lasts_of hL (by simp [Rows.filterRangesRow]))
end filterRanges
end Go.Proofs.YtfmjhgggoklaoaaDoor
