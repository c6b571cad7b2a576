/- The sum of a row as a row. -/
import Derived.Test.YtopoogdoepdedaaDoorRowVal
import Derived.Test.YtopoogdoepdedaaDoorKindMath
namespace Go.Proofs.YtopoogdoepdedaaDoor
namespace Bw
open Bm Cm
def sumL (k : Nat) (l : List UInt8) : List UInt8 := bitsHead (sumV k l) (kS k) (kS k)
theorem sumL_row (k : Nat) (l : List UInt8) : rowB (sumL k l) = true := bitsHead_row _ _ _
theorem sumL_len (k : Nat) (l : List UInt8) : (sumL k l).length = kS k := bitsHead_length _ _ _
theorem sumL_val (k : Nat) (hk : k ≤ 4) (l : List UInt8) : val (sumL k l) = sumV k l := val_row _ _ (sumV_lt k hk l)
end Bw
end Go.Proofs.YtopoogdoepdedaaDoor
