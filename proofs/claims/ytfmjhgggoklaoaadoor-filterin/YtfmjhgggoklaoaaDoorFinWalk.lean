/- The law FilterIn, of what came in. -/
import Derived.Test.YtfmjhgggoklaoaaDoorFinLaw
import Derived.Test.YtfmjhgggoklaoaaDoorRefFrame
import Derived.Test.YtfmjhgggoklaoaaDoorLastsRow
import Derived.Test.YtfmjhgggoklaoaaDoorSizesRow
namespace Go.Proofs.YtfmjhgggoklaoaaDoor
open Go.ChangeShapes Go.WideShapes Go.ChangeAt Go.RowKit
namespace filterIn
open Bw
theorem walk (a : Option Addr) (n c : Nat) (l : List Fl) (id : Int) (lo fa re : Bool) (sz : Int) (fa0 : Option Addr) (len cap : Nat) (zs : List Int) (w : World) (hF : IsFils w a n c l)
    (_ : (Lit.int .i64 id).wf = true) (_ : (Lit.int .i64 sz).wf = true) (hr : IsRow .u8 w fa0 len cap zs) (hL : laidMet Tryd.prog Rows.filterInRow.laid w) :
    Calls Tryd.prog 3 #[.slice a n c, frameV id lo fa re sz fa0 len cap] w fun e w' => e = .returned (.bool true) ∧ Below w.heap.size w w' := by
  have hl := lasts_of hL (by simp [Rows.filterInRow])
  have hs := sizes_of hL (by simp [Rows.filterInRow])
  have hlen : len ≤ maxLen := by
    rcases hr with ⟨_, rfl, _, _⟩ | ⟨x, _, h1, h2, _⟩
    · exact Nat.zero_le _
    · omega
  by_cases h : chkFl l = 0
  · by_cases hg : frEn id lo fa re sz len = 0
    · obtain ⟨h1, h2⟩ := chkFl_zero h
      obtain ⟨ns, rfl, hok⟩ := fn_of h2
      have hln := hF.len
      obtain ⟨hi0, hi1⟩ := frEn_id hg
      obtain ⟨k, rfl⟩ := Int.eq_ofNat_of_zero_le hi0
      exact fin_ok checkFrame_any a n c ns k lo fa re sz fa0 len cap w hF hl hs hlen hok (by omega) hg (by omega)
    · exact fin_frame checkFrame_any a n c l id lo fa re sz fa0 len cap w hF hl hs hlen h hg
  · exact fin_bad a n c l id lo fa re sz fa0 len cap w hF hl h
end filterIn
end Go.Proofs.YtfmjhgggoklaoaaDoor
