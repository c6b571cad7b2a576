/- The walk of the law CheckSum as the row's step asks for it. -/
import Derived.Test.YtdhmjbnpdmneiabDoorCsumOk
import Derived.Test.YtdhmjbnpdmneiabDoorRulesRow
import Derived.Test.YtdhmjbnpdmneiabDoorBruijnRow
namespace Go.Proofs.YtdhmjbnpdmneiabDoor
open Go.ChangeShapes Go.WideShapes Go.ChangeAt Go.RowKit
namespace checkSum
theorem walk (a0 : Int) (a1 : ByteArray) (w : World) (_ : (Lit.int .i64 a0).wf = true) (w1 : a1.size ≤ maxLen) (hL : laidMet Tryd.prog Rows.checkSumRow.laid w) :
    Calls Tryd.prog 4 #[.int .i64 a0, .string a1] w fun e w' => e = .returned (.bool true) ∧ Below w.heap.size w w' :=
  Bw.checkSumLaw a0 a1 w w1 (Bw.rules_of hL (.tail _ (.tail _ (.tail _ (.head _))))) (Bw.bruijn_of hL (.tail _ (.head _)))
end checkSum
end Go.Proofs.YtdhmjbnpdmneiabDoor
