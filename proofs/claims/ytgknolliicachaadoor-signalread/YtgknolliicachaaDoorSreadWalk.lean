/- What SignalRead answers: true. -/
import Derived.Test.YtgknolliicachaaDoorRows
import Derived.Test.YtgknolliicachaaDoorSreadLaw
import Derived.Test.YtgknolliicachaaDoorSigOpen
namespace Go.Proofs.YtgknolliicachaaDoor
open Go.ChangeShapes Go.WideShapes Go.ChangeAt Go.RowKit
namespace signalRead
open Bw
theorem walk (s : Sig) (a : Option Addr) (len cap : Nat) (zs : List Int) (w : World) (hs : wfS s) (hD : IsRow .u8 w a len cap zs) (_ : laidMet Tryd.prog Rows.signalReadRow.laid w) :
    Calls Tryd.prog 4 #[sgV s, .slice a len cap] w fun e w' => e = .returned (.bool true) ∧ Below w.heap.size w w' := by
  obtain ⟨l, hl⟩ := isBytes_of_row hD
  exact sread_law s a len cap l w hs hl
end signalRead
end Go.Proofs.YtgknolliicachaaDoor
