/- What TextBack answers: true. -/
import Derived.Test.YtlnkhlifkooohaaGreatDoorTbackLaw
import Derived.Test.YtlnkhlifkooohaaGreatDoorPow10Row
import Derived.Test.YtlnkhlifkooohaaGreatDoorSizesRow
import Derived.Test.YtlnkhlifkooohaaGreatDoorMsgOpenL
namespace Go.Proofs.YtlnkhlifkooohaaGreatDoor
open Go.ChangeShapes Go.WideShapes Go.ChangeAt Go.RowKit
namespace textBack
open Bw
theorem walk (a : Option Addr) (len cap : Nat) (l : List MsV) (w : World) (hF : IsMsgs w a len cap l) (hL : laidMet Tryz.prog Rows.textBackRow.laid w) (hsh : w.ShapedOpen Tryz.prog) :
    Calls Tryz.prog 6 #[.slice a len cap] w fun e w' => e = .returned (.bool true) ∧ Below w.heap.size w w' := by
  have hS := sizes_of hL (by simp [Rows.textBackRow])
  have hT : TxT w := ⟨pow_of hL (by simp [Rows.textBackRow]), max_of hsh⟩
  by_cases hE : printE l = 0
  · exact tback_ok a len cap l w hF hS hT hE
  · exact tback_bad a len cap l w hF hS hT hE
end textBack
end Go.Proofs.YtlnkhlifkooohaaGreatDoor
