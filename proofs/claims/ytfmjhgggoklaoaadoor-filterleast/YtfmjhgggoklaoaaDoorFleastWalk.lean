/- The law FilterLeast, of what came in. -/
import Derived.Test.YtfmjhgggoklaoaaDoorFleastLaw
import Derived.Test.YtfmjhgggoklaoaaDoorLastsRow
namespace Go.Proofs.YtfmjhgggoklaoaaDoor
open Go.ChangeShapes Go.WideShapes Go.ChangeAt Go.RowKit
namespace filterLeast
open Bw
theorem walk (a : Option Addr) (n c : Nat) (l : List Fl) (w : World) (hF : IsFils w a n c l) (hL : laidMet Tryd.prog Rows.filterLeastRow.laid w) :
    Calls Tryd.prog 4 #[.slice a n c] w fun e w' => e = .returned (.bool true) ∧ Below w.heap.size w w' := by
  have hl := lasts_of hL (by simp [Rows.filterLeastRow])
  by_cases h : chkFl l = 0
  · obtain ⟨h1, h2⟩ := chkFl_zero h
    obtain ⟨ns, rfl, hok⟩ := fn_of h2
    have hlen := hF.len
    exact fleast_ok a n c ns w hF hl hok (by omega)
  · exact fleast_bad a n c l w hF hl h
end filterLeast
end Go.Proofs.YtfmjhgggoklaoaaDoor
