/- The walk of BitsTurned in the form that the row's step asks for. -/
import Derived.Test.YtcoemhndpmdccaaDoorTurnWalk
import Derived.Test.YtcoemhndpmdccaaDoorTabsRow
import Derived.Shelf.Vars
namespace Go.Proofs.YtcoemhndpmdccaaDoor
open Go.ChangeShapes Go.WideShapes Go.ChangeAt Go.RowKit
namespace bitsTurned
theorem walk (a0 : ByteArray) (w : World) (w0 : a0.size ≤ maxLen) (hL : laidMet Tryd.prog Rows.bitsTurnedRow.laid w) (hsh : w.ShapedOpen Tryd.prog) :
    Calls Tryd.prog 5 #[.string a0] w fun e w' => e = .returned (.bool true) ∧ Below w.heap.size w w' := by
  by_cases hc : Bm.checkE a0.data.toList = 0
  · obtain ⟨m, hm⟩ := cell_of_shapedOpen_int (g := 0) (t := 3) (zero := #[.int .i64 0]) (k := .i64) hsh (of_decide_eq_true (by kernel_rfl)) (by kernel_rfl) rfl (by kernel_rfl) (by kernel_rfl) Tryd.underlying3
    exact Bw.turnGood a0 w hc (Bw.tabs_of hL (.tail _ (.head _)) (.head _)) m hm
  · exact Bw.turnBad a0 w w0 hc
end bitsTurned
end Go.Proofs.YtcoemhndpmdccaaDoor
