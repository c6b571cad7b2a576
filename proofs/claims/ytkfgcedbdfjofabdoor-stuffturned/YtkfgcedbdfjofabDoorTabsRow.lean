/- The tables of unicode/utf8, off the row's own condition. -/
import Derived.Test.YtkfgcedbdfjofabDoorBitsTurn
import Derived.Test.YtkfgcedbdfjofabDoorRows
import Derived.PinnedBridge
import Derived.Lib.LaidU8T
namespace Go.Proofs.YtkfgcedbdfjofabDoor
open Go.ChangeShapes Go.WideShapes Go.ChangeAt Go.RowKit
namespace Bw
theorem u8x : U8Extra Tryd.prog Tryd.lays230_ren := ⟨by kernel_rfl, by kernel_rfl, by kernel_rfl, by kernel_rfl, by kernel_rfl, by kernel_rfl, by kernel_rfl⟩
theorem u8t : U8Types Tryd.prog Tryd.lays230_ren := ⟨by kernel_rfl, by kernel_rfl, by kernel_rfl, by kernel_rfl⟩
theorem acc_eq : Rows.laid_unicode_utf8_acceptRanges (H := Unit) = Lib.acceptData := by kernel_rfl
theorem tabs_of {W : World} {laid : List (String × DataW Unit)} (hL : laidMet Tryd.prog laid W)
    (h1 : ("unicode/utf8.first", Pinned.utf8First) ∈ laid) (h2 : ("unicode/utf8.acceptRanges", Rows.laid_unicode_utf8_acceptRanges) ∈ laid) : Lib.Utf8Tabs 0 1 W :=
  utf8Tabs_of_readsT u8t u8x (Pinned.utf8First_eq ▸ Lib.laidMet.reads hL h1) (acc_eq ▸ Lib.laidMet.reads hL h2)
end Bw
end Go.Proofs.YtkfgcedbdfjofabDoor
