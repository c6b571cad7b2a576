/- What PartLost answers: true. -/
import Derived.Test.YtljigcmhkjbhjaaRows
import Derived.Test.YtljigcmhkjbhjaaPtLostLaw
import Derived.Test.YtljigcmhkjbhjaaIsRow
namespace Go.Proofs.Ytljigcmhkjbhjaa
open Go.ChangeShapes Go.WideShapes Go.ChangeAt Go.RowKit
namespace partLost
open Bw
theorem walk (a : Option Addr) (len cap : Nat) (zs : List Int) (lost : Int) (w : World) (hD : IsRow .u8 w a len cap zs) (_ : (Lit.int .i64 lost).wf = true) :
    Calls Try.prog 7 #[.slice a len cap, .int .i64 lost] w fun e w' => e = .returned (.bool true) ∧ Below w.heap.size w w' := by
  obtain ⟨l, hl⟩ := isBytes_of_row hD
  exact plost_any a len cap l lost w hl
end partLost
end Go.Proofs.Ytljigcmhkjbhjaa
