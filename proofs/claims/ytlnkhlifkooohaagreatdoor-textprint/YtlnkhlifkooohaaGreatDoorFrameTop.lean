/- Which frames are right: the errors, as data; of no program. -/
import Derived.Test.YtlnkhlifkooohaaGreatDoorBase8
namespace Go.Proofs.YtlnkhlifkooohaaGreatDoor
namespace Cm
theorem top_true : True := trivial
end Cm
namespace Bw
open Bm Cm
def sizesL : List Nat := [0, 1, 2, 3, 4, 5, 6, 7, 8, 12, 16, 20, 24, 32, 48, 64]
def topI (lo : Bool) : Int := if lo then 536870911 else 2047
def frEn (id : Int) (lo fa re : Bool) (sz : Int) (n : Nat) : Int :=
  if id < 0 ∨ topI lo < id then 3
  else if re = true ∧ (fa = true ∨ n ≠ 0) then 4
  else if sz < 0 ∨ 8 < sz ∨ (0 < sz ∧ re = false) then 3
  else if 64 < n ∨ (8 < n ∧ fa = false) then 2
  else if n ∈ sizesL then 0 else 4
end Bw
end Go.Proofs.YtlnkhlifkooohaaGreatDoor
