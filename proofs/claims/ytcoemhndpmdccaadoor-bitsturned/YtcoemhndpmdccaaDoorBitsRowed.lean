/- The closed fact of the laws of package bits: ten is told, and written, as it should be. -/
import Derived.Test.YtcoemhndpmdccaaDoorBitsRow
namespace Go.Proofs.YtcoemhndpmdccaaDoor
open Go.ChangeShapes Go.WideShapes Go.ChangeAt Go.RowKit
namespace Bw
open Bm

set_option maxHeartbeats 1000000 in
theorem rowed_any (w : World) :
    Calls Tryd.prog 10 #[] w fun e w' => e = .returned (.bool true) ∧ Below w.heap.size w w' := by
  have h1 := fun W => number_any ⟨#[49, 48, 49, 48]⟩ W (by unfold maxLen; decide)
  have e1 : numV (ByteArray.mk #[49, 48, 49, 48]).data.toList = 10 := by decide
  have e2 : numE (ByteArray.mk #[49, 48, 49, 48]).data.toList = 0 := by decide
  rw [e1, e2] at h1
  have h2 := fun W => row_ok 10 5 W (by omega) (by omega)
  have e3 : (bitsHead 10 5 5).toArray = #[48, 49, 48, 49, 48] := by decide
  rw [e3] at h2
  go_enter Tryd.func10, Tryd.ntmps10
  go_wp2_with fail
  refine (h1 _).mono ?_
  rintro e w1 ⟨rfl, hb1⟩
  clear h1 e1 e2
  go_wp2_with fail
  refine (h2 _).mono ?_
  rintro e w2 ⟨rfl, hb2⟩
  clear h2 e3
  go_wp2_with fail
  go_ret
  exact ⟨rfl, hb1.trans (hb2.mono hb1.size)⟩
end Bw
end Go.Proofs.YtcoemhndpmdccaaDoor
