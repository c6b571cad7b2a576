/- What PartSend answers: true. -/
import Derived.Test.YtljigcmhkjbhjaaRows
import Derived.Test.YtljigcmhkjbhjaaPtSendLaw
import Derived.Test.YtljigcmhkjbhjaaIsRow
namespace Go.Proofs.Ytljigcmhkjbhjaa
open Go.ChangeShapes Go.WideShapes Go.ChangeAt Go.RowKit
namespace partSend
open Bw
theorem walk (a : Option Addr) (len cap : Nat) (zs : List Int) (block : Int) (w : World) (hD : IsRow .u8 w a len cap zs) (_ : (Lit.int .i64 block).wf = true) :
    Calls Try.prog 6 #[.slice a len cap, .int .i64 block] w fun e w' => e = .returned (.bool true) ∧ Below w.heap.size w w' := by
  obtain ⟨l, hl⟩ := isBytes_of_row hD
  exact psend_any a len cap l block w hl
end partSend
end Go.Proofs.Ytljigcmhkjbhjaa
