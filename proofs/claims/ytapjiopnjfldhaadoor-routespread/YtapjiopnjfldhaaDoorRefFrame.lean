/- What the document's own CheckFrame answers of any frame. -/
import Derived.Test.YtapjiopnjfldhaaDoorRefFrameA
import Derived.Test.YtapjiopnjfldhaaDoorRefFrameB
namespace Go.Proofs.YtapjiopnjfldhaaDoor
open Go.ChangeShapes Go.WideShapes Go.ChangeAt Go.RowKit
namespace Bw
open Bm Cm

theorem checkFrame_any (id : Int) (lo fa re : Bool) (sz : Int) (a : Option Addr) (len cap : Nat) (w : World) (hlen : len ≤ 9223372036854775807) :
    Calls Tryd.prog 13 #[frameV id lo fa re sz a len cap] w fun e w' => e = .returned (.int .i64 (frEn id lo fa re sz len)) ∧ Below w.heap.size w w' := by
  cases lo <;> cases fa <;> cases re
  · exact checkFrame_snd id sz a len cap w hlen
  · exact checkFrame_snr id sz a len cap w hlen
  · exact checkFrame_sfd id sz a len cap w hlen
  · exact checkFrame_sfr id sz a len cap w hlen
  · exact checkFrame_lnd id sz a len cap w hlen
  · exact checkFrame_lnr id sz a len cap w hlen
  · exact checkFrame_lfd id sz a len cap w hlen
  · exact checkFrame_lfr id sz a len cap w hlen
end Bw
end Go.Proofs.YtapjiopnjfldhaaDoor
