/- What the row's step tells a walk of a slice of integers that came in. -/
import Derived.Test.YtgjnfmbmndnihaaBase0
namespace Go.Proofs.Ytgjnfmbmndnihaa
open Go.ChangeShapes Go.WideShapes Go.ChangeAt Go.RowKit
namespace Bw
def IsRow (k : IntKind) (w : World) (a : Option Addr) (len cap : Nat) (zs : List Int) : Prop :=
  (a = none ∧ len = 0 ∧ cap = 0 ∧ zs = []) ∨
  ∃ x, a = some x ∧ len ≤ cap ∧ cap ≤ maxLen ∧ zs.length = cap ∧ (∀ i, i < zs.length → w.cell? (x.add i) = some (.int k (zs.getD i 0))) ∧ ∀ n ∈ zs, (Lit.int k n).wf = true
end Bw
end Go.Proofs.Ytgjnfmbmndnihaa
