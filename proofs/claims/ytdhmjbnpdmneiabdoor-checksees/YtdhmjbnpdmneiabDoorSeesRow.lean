/- The walk of the law CheckSees as the row's step asks for it. -/
import Derived.Test.YtdhmjbnpdmneiabDoorSeesWalk
import Derived.Test.YtdhmjbnpdmneiabDoorRulesRow
import Derived.Shelf.Vars
namespace Go.Proofs.YtdhmjbnpdmneiabDoor
open Go.ChangeShapes Go.WideShapes Go.ChangeAt Go.RowKit
namespace checkSees
theorem walk (a0 : Int) (a1 : ByteArray) (a2 : Int) (a3 : ByteArray) (w : World) (_ : (Lit.int .i64 a0).wf = true) (w1 : a1.size ≤ maxLen) (_ : (Lit.int .i64 a2).wf = true) (w3 : a3.size ≤ maxLen) (hL : laidMet Tryd.prog Rows.checkSeesRow.laid w) (hsh : w.ShapedOpen Tryd.prog) :
    Calls Tryd.prog 5 #[.int .i64 a0, .string a1, .int .i64 a2, .string a3] w fun e w' => e = .returned (.bool true) ∧ Below w.heap.size w w' := by
  obtain ⟨m, hm⟩ := cell_of_shapedOpen_int (g := 1) (t := 3) (zero := #[.int .i64 0]) (k := .i64) hsh (of_decide_eq_true (by kernel_rfl)) (by kernel_rfl) rfl (by kernel_rfl) (by kernel_rfl) Tryd.underlying3
  exact Bw.checkSeesLaw a0 a1 a2 a3 w w1 w3 (Bw.rules_of hL (.head _)) m hm
end checkSees
end Go.Proofs.YtdhmjbnpdmneiabDoor
