/- The law FilterCount, of what came in. -/
import Derived.Test.YtfmjhgggoklaoaaDoorFcountLaw
import Derived.Test.YtfmjhgggoklaoaaDoorLastsRow
namespace Go.Proofs.YtfmjhgggoklaoaaDoor
open Go.ChangeShapes Go.WideShapes Go.ChangeAt Go.RowKit
namespace filterCount
open Bw
theorem walk (a : Option Addr) (n c : Nat) (l : List Fl) (w : World) (hF : IsFils w a n c l) (hL : laidMet Tryd.prog Rows.filterCountRow.laid w) :
    Calls Tryd.prog 5 #[.slice a n c] w fun e w' => e = .returned (.bool true) ∧ Below w.heap.size w w' := by
  have hl := lasts_of hL (by simp [Rows.filterCountRow])
  by_cases h : chkFl l = 0
  · obtain ⟨h1, h2⟩ := chkFl_zero h
    obtain ⟨ns, rfl, hok⟩ := fn_of h2
    have hlen := hF.len
    exact fcount_ok a n c ns w hF hl hok (by omega)
  · exact fcount_bad a n c l w hF hl h
end filterCount
end Go.Proofs.YtfmjhgggoklaoaaDoor
