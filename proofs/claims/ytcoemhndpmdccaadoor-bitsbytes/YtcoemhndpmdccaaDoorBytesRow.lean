/- The walk of BitsBytes in the form that the row's step asks for. -/
import Derived.Test.YtcoemhndpmdccaaDoorBytesWalk
import Derived.Test.YtcoemhndpmdccaaDoorBruijnRow
namespace Go.Proofs.YtcoemhndpmdccaaDoor
open Go.ChangeShapes Go.WideShapes Go.ChangeAt Go.RowKit
namespace bitsBytes
theorem walk (a0 : Option Addr) (len0 cap0 : Nat) (z0 : List Int) (a1 : ByteArray) (w : World) (w0 : Bw.IsRow .u8 w a0 len0 cap0 z0) (w1 : a1.size ≤ maxLen) (hL : laidMet Tryd.prog Rows.bitsBytesRow.laid w) :
    Calls Tryd.prog 4 #[.slice a0 len0 cap0, .string a1] w fun e w' => e = .returned (.bool true) ∧ Below w.heap.size w w' := by
  obtain ⟨l, hl⟩ := Bw.isBytes_of_row w0
  exact Bw.bytesLaw a0 len0 cap0 l a1 w hl w1 (Bw.bruijn_of hL (.tail _ (.head _)))
end bitsBytes
end Go.Proofs.YtcoemhndpmdccaaDoor
