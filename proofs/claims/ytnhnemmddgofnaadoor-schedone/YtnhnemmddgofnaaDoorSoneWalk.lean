/- The law SchedOne, as the row asks it. -/
import Derived.Test.YtnhnemmddgofnaaDoorSbOne
import Derived.Test.YtnhnemmddgofnaaDoorSbOpen
namespace Go.Proofs.YtnhnemmddgofnaaDoor
open Go.ChangeShapes Go.WideShapes Go.ChangeAt Go.RowKit
namespace schedOne
open Bw
theorem walk (a : Option Addr) (n c : Nat) (l : List Tk) (b : Option Addr) (m d : Nat) (fs : List Int) (e : Option Addr) (o q : Nat) (lt : List Int) (en : Int) (w : World) (hT : IsTks w a n c l) (hF : IsRow .i64 w b m d fs) (hG : IsRow .i64 w e o q lt) (_he : (Lit.int .i64 en).wf = true) (hL : laidMet Tryd.prog Rows.schedOneRow.laid w) :
    Calls Tryd.prog 6 #[.slice a n c, .slice b m d, .slice e o q, .int .i64 en] w fun e w' => e = .returned (.bool true) ∧ Below w.heap.size w w' :=
  sone_any a n c l b m d _ e o q _ en w hT (ns_of hF) (ns_of hG) (sizes_of hL (by simp [Rows.schedOneRow])) (rules_of hL (by simp [Rows.schedOneRow]))
end schedOne
end Go.Proofs.YtnhnemmddgofnaaDoor
