/- What SignalBack answers: true. -/
import Derived.Test.YtgknolliicachaaRows
import Derived.Test.YtgknolliicachaaSbackLaw
import Derived.Test.YtgknolliicachaaSigOpen
namespace Go.Proofs.Ytgknolliicachaa
open Go.ChangeShapes Go.WideShapes Go.ChangeAt Go.RowKit
namespace signalBack
open Bw
theorem walk (s : Sig) (a : Option Addr) (len cap : Nat) (zs : List Int) (n m : Int) (w : World) (hs : wfS s) (hD : IsRow .u8 w a len cap zs) (_ : (Lit.int .i64 n).wf = true) (_ : (Lit.int .i64 m).wf = true) :
    Calls Try.prog 3 #[sgV s, .slice a len cap, .int .i64 n, .int .i64 m] w fun e w' => e = .returned (.bool true) ∧ Below w.heap.size w w' := by
  obtain ⟨l, hl⟩ := isBytes_of_row hD
  exact back_law s a len cap l n m w hs hl
end signalBack
end Go.Proofs.Ytgknolliicachaa
