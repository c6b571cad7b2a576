/- What GuardPut answers: true. -/
import Derived.Test.YtopoogdoepdedaaDoorRows
import Derived.Test.YtopoogdoepdedaaDoorGputA
import Derived.Test.YtopoogdoepdedaaDoorRulesRow
import Derived.Test.YtopoogdoepdedaaDoorBruijnRow
import Derived.Test.YtopoogdoepdedaaDoorBytesSized
namespace Go.Proofs.YtopoogdoepdedaaDoor
open Go.ChangeShapes Go.WideShapes Go.ChangeAt Go.RowKit
namespace guardPut
open Bw
theorem walk (key ctr : Int) (a : Option Addr) (len cap : Nat) (zs : List Int) (w : World) (_ : (Lit.int .i64 key).wf = true) (_ : (Lit.int .i64 ctr).wf = true) (hD : IsRow .u8 w a len cap zs) (hlen : len ≤ 140737488351232) (hL : laidMet Tryd.prog Rows.guardPutRow.laid w) :
    Calls Tryd.prog 3 #[.int .i64 key, .int .i64 ctr, .slice a len cap] w fun e w' => e = .returned (.bool true) ∧ Below w.heap.size w w' := by
  have hR := rules_of hL (by simp [Rows.guardPutRow])
  have hB := bruijn_of hL (by simp [Rows.guardPutRow])
  obtain ⟨l, hl⟩ := isBytes_of_row hD
  exact guardPut_law key ctr a len cap l w hR hB hl hlen
end guardPut
end Go.Proofs.YtopoogdoepdedaaDoor
