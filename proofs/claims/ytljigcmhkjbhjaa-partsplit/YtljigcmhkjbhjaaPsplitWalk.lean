/- What PartSplit answers: true. -/
import Derived.Test.YtljigcmhkjbhjaaRows
import Derived.Test.YtljigcmhkjbhjaaPtSplitLaw
import Derived.Test.YtljigcmhkjbhjaaIsRow
namespace Go.Proofs.Ytljigcmhkjbhjaa
open Go.ChangeShapes Go.WideShapes Go.ChangeAt Go.RowKit
namespace partSplit
open Bw
theorem walk (a : Option Addr) (len cap : Nat) (zs : List Int) (w : World) (hD : IsRow .u8 w a len cap zs) :
    Calls Try.prog 3 #[.slice a len cap] w fun e w' => e = .returned (.bool true) ∧ Below w.heap.size w w' := by
  obtain ⟨l, hl⟩ := isBytes_of_row hD
  exact psplit_any a len cap l w hl
end partSplit
end Go.Proofs.Ytljigcmhkjbhjaa
