/- What MessageFound answers: true. -/
import Derived.Test.YtgjkioknnjbjfaaDoorRows
import Derived.Test.YtgjkioknnjbjfaaDoorMfoundLaw
import Derived.Test.YtgjkioknnjbjfaaDoorMsgOpen
import Derived.Test.YtgjkioknnjbjfaaDoorSizesRow
namespace Go.Proofs.YtgjkioknnjbjfaaDoor
open Go.ChangeShapes Go.WideShapes Go.ChangeAt Go.RowKit
namespace messageFound
open Bw
theorem row_len {k : IntKind} {w : World} {a : Option Addr} {len cap : Nat} {zs : List Int} (h : IsRow k w a len cap zs) : len ≤ maxLen := by
  rcases h with ⟨_, h, _, _⟩ | ⟨x, _, h1, h2, _⟩
  · omega
  · exact Nat.le_trans h1 h2
theorem walk (a : Option Addr) (n c : Nat) (l : List MsV) (id : Int) (lo fa re : Bool) (sz : Int) (fa0 : Option Addr) (len cap : Nat) (zs : List Int) (w : World) (hF : IsMsgs w a n c l) (_ : (Lit.int .i64 id).wf = true) (_ : (Lit.int .i64 sz).wf = true) (hR : IsRow .u8 w fa0 len cap zs) (hL : laidMet Tryd.prog Rows.messageFoundRow.laid w) :
    Calls Tryd.prog 5 #[.slice a n c, frameV id lo fa re sz fa0 len cap] w fun e w' => e = .returned (.bool true) ∧ Below w.heap.size w w' :=
  found_law a n c l id lo fa re sz fa0 len cap w hF (sizes_of hL (by simp [Rows.messageFoundRow])) (row_len hR)
end messageFound
end Go.Proofs.YtgjkioknnjbjfaaDoor
