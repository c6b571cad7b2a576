/- What SignalPlaces answers: true. -/
import Derived.Test.YtgknolliicachaaDoorRows
import Derived.Test.YtgknolliicachaaDoorSplacesLaw
import Derived.Test.YtgknolliicachaaDoorSigOpen
namespace Go.Proofs.YtgknolliicachaaDoor
open Go.ChangeShapes Go.WideShapes Go.ChangeAt Go.RowKit
namespace signalPlaces
open Bw
theorem walk (s t : Sig) (size : Int) (nt : ByteArray) (w : World) (hs : wfS s) (ht : wfS t) (_ : (Lit.int .i64 size).wf = true) (hn : nt.size ≤ maxLen) (_ : laidMet Tryd.prog Rows.signalPlacesRow.laid w) :
    Calls Tryd.prog 3 #[sgV s, sgV t, .int .i64 size, .string nt] w fun e w' => e = .returned (.bool true) ∧ Below w.heap.size w w' :=
  places_law s t size nt w hs ht (by unfold maxLen at hn; exact Nat.le_trans hn (by decide))
end signalPlaces
end Go.Proofs.YtgknolliicachaaDoor
