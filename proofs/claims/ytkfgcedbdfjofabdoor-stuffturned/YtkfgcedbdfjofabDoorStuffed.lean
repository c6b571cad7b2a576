/- The closed fact of the laws of package stuff: a bit behind five, there and back. -/
import Derived.Test.YtkfgcedbdfjofabDoorStuffTake
namespace Go.Proofs.YtkfgcedbdfjofabDoor
open Go.ChangeShapes Go.WideShapes Go.ChangeAt Go.RowKit
namespace Bw
open Bm

set_option maxHeartbeats 2000000 in
theorem stuffed_any (w : World) :
    Calls Tryd.prog 5 #[] w fun e w' => e = .returned (.bool true) ∧ Below w.heap.size w w' := by
  have h1 := fun W => put_ok ⟨#[49, 49, 49, 49, 49, 48, 48, 48, 48, 49, 49]⟩ W (by decide +kernel)
  have e1 : (putF (ByteArray.mk #[49, 49, 49, 49, 49, 48, 48, 48, 48, 49, 49]).data.toList).toArray = #[49, 49, 49, 49, 49, 48, 48, 48, 48, 48, 49, 49, 49] := by decide +kernel
  rw [e1] at h1
  have h2 := fun W => take_ok (⟨#[49, 49, 49, 49, 49, 48, 48, 48, 48, 48, 49, 49, 49]⟩ ++ ⟨#[49]⟩) 11 W (by decide +kernel) (by omega)
  have e2 : takeG (ByteArray.mk #[49, 49, 49, 49, 49, 48, 48, 48, 48, 48, 49, 49, 49] ++ ⟨#[49]⟩).data.toList 11 0 [] = ([49, 49, 49, 49, 49, 48, 48, 48, 48, 49, 49], 13, 0) := by decide +kernel
  rw [e2] at h2
  have H1 := Hid.mk h1
  have H2 := Hid.mk h2
  clear h1 h2 e1 e2
  go_enter Tryd.func5, Tryd.ntmps5
  go_wp2_with fail
  refine (H1.out _).mono ?_
  rintro e w1 ⟨rfl, hb1⟩
  go_wp2_with fail
  refine (H2.out _).mono ?_
  rintro e w2 ⟨rfl, hb2⟩
  unfold takeV
  go_wp2_with fail
  go_ret
  exact ⟨rfl, hb1.trans (hb2.mono hb1.size)⟩
end Bw
end Go.Proofs.YtkfgcedbdfjofabDoor
