/- The walk of BitsNumber in the form that the row's step asks for. -/
import Derived.Test.YtcoemhndpmdccaaDoorNumberWalk
import Derived.Test.YtcoemhndpmdccaaDoorBruijnRow
namespace Go.Proofs.YtcoemhndpmdccaaDoor
open Go.ChangeShapes Go.WideShapes Go.ChangeAt Go.RowKit
namespace bitsNumber
theorem walk (a0 : ByteArray) (a1 a2 : Int) (w : World) (w0 : a0.size ≤ maxLen) (w1 : (Lit.int .i64 a1).wf = true) (_w2 : (Lit.int .i64 a2).wf = true) (hL : laidMet Tryd.prog Rows.bitsNumberRow.laid w) :
    Calls Tryd.prog 3 #[.string a0, .int .i64 a1, .int .i64 a2] w fun e w' => e = .returned (.bool true) ∧ Below w.heap.size w w' :=
  Bw.numberLaw a0 a1 a2 w w0 w1 (Bw.bruijn_of hL (.tail _ (.head _)))
end bitsNumber
end Go.Proofs.YtcoemhndpmdccaaDoor
