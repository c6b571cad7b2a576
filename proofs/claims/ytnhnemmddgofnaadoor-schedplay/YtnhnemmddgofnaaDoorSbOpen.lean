/- Rows of numbers that came in, for package sched's laws. -/
import Derived.Test.YtnhnemmddgofnaaDoorS2
import Derived.Test.YtnhnemmddgofnaaDoorC13
import Derived.Test.YtnhnemmddgofnaaDoorDlOpen
import Derived.Test.YtnhnemmddgofnaaDoorC22
namespace Go.Proofs.YtnhnemmddgofnaaDoor
open Go.ChangeShapes Go.WideShapes Go.ChangeAt Go.RowKit
namespace Bw
theorem ns_of {w : World} {a : Option Addr} {n c : Nat} {zs : List Int} (h : IsRow .i64 w a n c zs) : IsNs w a n c (zs.take n) := by
  rcases h with ⟨rfl, rfl, rfl, rfl⟩ | ⟨x, rfl, h1, h2, h3, h4, -⟩
  · exact ⟨rfl, Nat.le_refl _, Nat.zero_le _, fun _ => rfl, fun x hx => (by cases hx)⟩
  · refine ⟨by rw [List.length_take]; omega, h1, h2, fun e => (by cases e), fun y hy i hi => ?_⟩
    cases hy
    rw [h4 i (by omega)]
    simp [List.getD, hi]
end Bw
end Go.Proofs.YtnhnemmddgofnaaDoor
