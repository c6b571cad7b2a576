/- The law RouteStep, as the row asks it. -/
import Derived.Test.YtapjiopnjfldhaaDoorRtLaw4
import Derived.Test.YtapjiopnjfldhaaDoorRtLed
import Derived.Test.YtapjiopnjfldhaaDoorRtOpen
import Derived.Test.YtapjiopnjfldhaaDoorA15
namespace Go.Proofs.YtapjiopnjfldhaaDoor
open Go.ChangeShapes Go.WideShapes Go.ChangeAt Go.RowKit
namespace routeStep
open Bw
theorem walk (a : Option Addr) (n c : Nat) (b : Option Addr) (m d : Nat) (rs : List Rt) (ts : List Int) (time bus id : Int) (lo fa re : Bool) (sz : Int) (fa0 : Option Addr) (len cap : Nat) (zs : List Int) (w : World) (hR : IsRts w a n c rs) (hT : IsNums w b m d ts) (hn : n ≤ 2513169434843)
    (_ : (Lit.int .i64 time).wf = true) (_ : (Lit.int .i64 bus).wf = true) (_ : (Lit.int .i64 id).wf = true) (_ : (Lit.int .i64 sz).wf = true) (hr : IsRow .u8 w fa0 len cap zs) (hL : laidMet Tryd.prog Rows.routeStepRow.laid w) :
    Calls Tryd.prog 3 #[gaV a n c b m d, .int .i64 time, .int .i64 bus, frameV id lo fa re sz fa0 len cap] w fun e w' => e = .returned (.bool true) ∧ Below w.heap.size w w' := by
  have hl := lasts_of hL (by simp [Rows.routeStepRow])
  have hs := sizes_of hL (by simp [Rows.routeStepRow])
  obtain ⟨dt, hD⟩ := isBytes_of_row hr
  by_cases h : stE rs ts time bus id lo fa re sz len = 0
  · exact rstep_ok routed_any a n c b m d rs ts time bus id lo fa re sz fa0 len cap dt w hR hT hl hs hD hn h
  · exact rstep_bad routed_any a n c b m d rs ts time bus id lo fa re sz fa0 len cap dt w hR hT hl hs hD hn h
end routeStep
end Go.Proofs.YtapjiopnjfldhaaDoor
