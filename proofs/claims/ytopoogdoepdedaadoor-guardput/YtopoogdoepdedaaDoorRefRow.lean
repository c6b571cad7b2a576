/- What the document's own RowOf answers of a number that fits. -/
import Derived.Test.YtopoogdoepdedaaDoorRef2
namespace Go.Proofs.YtopoogdoepdedaaDoor
open Go.ChangeShapes Go.WideShapes Go.ChangeAt Go.RowKit
namespace Ww
open Bm

theorem rowOf_fit (V s : Nat) (w : World) (h : w.cell? ⟨4, 1, none⟩ = some (.int .u8 1)) (hs : s ≤ 30) (hV : V < 2 ^ s) :
    Calls Tryd.prog 35 #[.int .i64 V, .int .i64 s] w fun e w' => e = .returned (.tuple #[.string ⟨(Bw.bitsHead V s s).toArray⟩, .bool true]) ∧ Below w.heap.size w w' := by
  by_cases h0 : V = 0
  · subst h0; exact Bw.rowOf_zero s w (by omega)
  · have h63 : V < 2 ^ 63 := Nat.lt_of_lt_of_le hV (Nat.pow_le_pow_right (Nat.succ_pos 1) (by omega))
    refine (Bw.rowOf_pos V s w h (by omega) h63 (by omega)).mono ?_
    rintro e w' ⟨h1, _, h3⟩
    exact ⟨h1 hV, h3⟩
end Ww
end Go.Proofs.YtopoogdoepdedaaDoor
