/- What frame.Bits answers of any frame. -/
import Derived.Test.YtnhnemmddgofnaaDoorC14
import Derived.Test.YtnhnemmddgofnaaDoorFrFixed
import Derived.Test.YtnhnemmddgofnaaDoorC5
namespace Go.Proofs.YtnhnemmddgofnaaDoor
open Go.ChangeShapes Go.WideShapes Go.ChangeAt Go.RowKit
namespace Bw
open Bm Cm

def bitsA (f : Fr) : Value := if frE f = 0 then .tuple #[.string ⟨(bitsL f).toArray⟩, .int .i64 0] else .tuple #[.string ⟨#[]⟩, .int .i64 (frE f)]
end Bw
end Go.Proofs.YtnhnemmddgofnaaDoor
