/- The walk of the law CheckAdds as the row's step asks for it. -/
import Derived.Test.YtdhmjbnpdmneiacDoorAddsWalk
import Derived.Test.YtdhmjbnpdmneiacDoorRulesRow
namespace Go.Proofs.YtdhmjbnpdmneiacDoor
open Go.ChangeShapes Go.WideShapes Go.ChangeAt Go.RowKit
namespace checkAdds
theorem walk (a0 : Int) (a1 a2 a3 : ByteArray) (w : World) (_ : (Lit.int .i64 a0).wf = true) (w1 : a1.size ≤ maxLen) (_ : a2.size ≤ maxLen) (_ : a3.size ≤ maxLen) (hL : laidMet Tryd.prog Rows.checkAddsRow.laid w) :
    Calls Tryd.prog 3 #[.int .i64 a0, .string a1, .string a2, .string a3] w fun e w' => e = .returned (.bool true) ∧ Below w.heap.size w w' :=
  Bw.adds_any a0 a1 a2 a3 w w1 (Bw.rules_of hL (.head _))
end checkAdds
end Go.Proofs.YtdhmjbnpdmneiacDoor
