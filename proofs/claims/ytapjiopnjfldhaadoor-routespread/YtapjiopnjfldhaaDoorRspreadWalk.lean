/- The law RouteSpread, as the row asks it. -/
import Derived.Test.YtapjiopnjfldhaaDoorRtSpl
import Derived.Test.YtapjiopnjfldhaaDoorRtOpen
import Derived.Test.YtapjiopnjfldhaaDoorA15
namespace Go.Proofs.YtapjiopnjfldhaaDoor
open Go.ChangeShapes Go.WideShapes Go.ChangeAt Go.RowKit
namespace routeSpread
open Bw
theorem walk (a : Option Addr) (n c : Nat) (rs : List Rt) (bus id : Int) (lo fa re : Bool) (sz : Int) (fa0 : Option Addr) (len cap : Nat) (zs : List Int) (w : World) (hR : IsRts w a n c rs) (hn : n ≤ 2513169434843)
    (_ : (Lit.int .i64 bus).wf = true) (_ : (Lit.int .i64 id).wf = true) (_ : (Lit.int .i64 sz).wf = true) (hr : IsRow .u8 w fa0 len cap zs) (hL : laidMet Tryd.prog Rows.routeSpreadRow.laid w) :
    Calls Tryd.prog 4 #[.slice a n c, .int .i64 bus, frameV id lo fa re sz fa0 len cap] w fun e w' => e = .returned (.bool true) ∧ Below w.heap.size w w' := by
  obtain ⟨dt, hD⟩ := isBytes_of_row hr
  exact rspread_any a n c rs bus id lo fa re sz fa0 len cap dt w hR (lasts_of hL (by simp [Rows.routeSpreadRow])) (sizes_of hL (by simp [Rows.routeSpreadRow])) hD hn
end routeSpread
end Go.Proofs.YtapjiopnjfldhaaDoor
