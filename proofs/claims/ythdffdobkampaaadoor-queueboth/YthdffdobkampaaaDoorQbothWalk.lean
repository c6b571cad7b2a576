/- What QueueBoth answers: true. -/
import Derived.Test.YthdffdobkampaaaDoorRows
import Derived.Test.YthdffdobkampaaaDoorQbothLaw
import Derived.Test.YthdffdobkampaaaDoorSizesRow
namespace Go.Proofs.YthdffdobkampaaaDoor
open Go.ChangeShapes Go.WideShapes Go.ChangeAt Go.RowKit
namespace queueBoth
open Bw Bm
theorem walk (a : Option Addr) (n cap : Nat) (l : List FrV) (a' : Option Addr) (n' cap' : Nat) (l' : List FrV) (w : World) (hF : IsFrames w a n cap l) (hF' : IsFrames w a' n' cap' l') (hL : laidMet Tryd.prog Rows.queueBothRow.laid w) :
    Calls Tryd.prog 6 #[.slice a n cap, .slice a' n' cap'] w fun e w' => e = .returned (.bool true) ∧ Below w.heap.size w w' := by
  have hS := sizes_of hL (by simp [Rows.queueBothRow])
  by_cases hc : chkQ (l.map (·.f)) = 0
  · by_cases hc' : chkQ (l'.map (·.f)) = 0
    · exact both_ok a n cap l a' n' cap' l' w hS hF hF' hc hc'
    · exact both_bad a n cap l a' n' cap' l' w hS hF hF' (by unfold mrgE; rw [if_pos hc]; exact hc')
  · exact both_bad a n cap l a' n' cap' l' w hS hF hF' (by unfold mrgE; rw [if_neg hc]; exact hc)
end queueBoth
end Go.Proofs.YthdffdobkampaaaDoor
