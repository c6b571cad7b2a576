/- What frame.Bits answers of any frame. -/
import Derived.Test.YtikfdhhcicgppaaDoorC14
import Derived.Test.YtikfdhhcicgppaaDoorFrFixed
import Derived.Test.YtikfdhhcicgppaaDoorC5
namespace Go.Proofs.YtikfdhhcicgppaaDoor
open Go.ChangeShapes Go.WideShapes Go.ChangeAt Go.RowKit
namespace Bw
open Bm Cm

def bitsA (f : Fr) : Value := if frE f = 0 then .tuple #[.string ⟨(bitsL f).toArray⟩, .int .i64 0] else .tuple #[.string ⟨#[]⟩, .int .i64 (frE f)]
end Bw
end Go.Proofs.YtikfdhhcicgppaaDoor
