/- The walk of StuffTurned in the form that the row's step asks for: the tables of unicode/utf8 are read off the row's own condition. -/
import Derived.Test.YtkfgcedbdfjofabDoorSturnWalk
import Derived.Test.YtkfgcedbdfjofabDoorRows
import Derived.Test.YtkfgcedbdfjofabDoorTabsRow
namespace Go.Proofs.YtkfgcedbdfjofabDoor
open Go.ChangeShapes Go.WideShapes Go.ChangeAt Go.RowKit
namespace stuffTurned
theorem walk (a0 : ByteArray) (w : World) (w0 : a0.size ≤ maxLen) (hL : laidMet Tryd.prog Rows.stuffTurnedRow.laid w) :
    Calls Tryd.prog 3 #[.string a0] w fun e w' => e = .returned (.bool true) ∧ Below w.heap.size w w' := by
  by_cases h : Bm.checkE a0.data.toList = 0
  · exact Bw.sturn_ok a0 w h (Bw.tabs_of hL (.tail _ (.head _)) (.head _))
  · exact Bw.sturn_bad a0 w w0 h
end stuffTurned
end Go.Proofs.YtkfgcedbdfjofabDoor
