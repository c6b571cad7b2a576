/- The walk of BitsBack in the form that the row's step asks for: the tables of unicode/utf8 are read off the row's own condition. -/
import Derived.Test.YtcoemhndpmdccaaDoorBackWalk
import Derived.Test.YtcoemhndpmdccaaDoorIsRow
import Derived.Test.YtcoemhndpmdccaaDoorRows
import Derived.PinnedBridge
import Derived.Lib.LaidU8T
namespace Go.Proofs.YtcoemhndpmdccaaDoor
open Go.ChangeShapes Go.WideShapes Go.ChangeAt Go.RowKit
namespace Bw
theorem u8x : U8Extra Tryd.prog Tryd.lays230_ren := ⟨by kernel_rfl, by kernel_rfl, by kernel_rfl, by kernel_rfl, by kernel_rfl, by kernel_rfl, by kernel_rfl⟩
theorem u8t : U8Types Tryd.prog Tryd.lays230_ren := ⟨by kernel_rfl, by kernel_rfl, by kernel_rfl, by kernel_rfl⟩
theorem acc_eq : Rows.laid_unicode_utf8_acceptRanges (H := Unit) = Lib.acceptData := by kernel_rfl
theorem tabs_of {W : World} {laid : List (String × DataW Unit)} (hL : laidMet Tryd.prog laid W)
    (h1 : ("unicode/utf8.first", Pinned.utf8First) ∈ laid) (h2 : ("unicode/utf8.acceptRanges", Rows.laid_unicode_utf8_acceptRanges) ∈ laid) : Lib.Utf8Tabs 2 3 W :=
  utf8Tabs_of_readsT u8t u8x (Pinned.utf8First_eq ▸ Lib.laidMet.reads hL h1) (acc_eq ▸ Lib.laidMet.reads hL h2)
end Bw
namespace bitsBack
theorem walk (a0 a1 : Int) (a2 : Option Addr) (len2 cap2 : Nat) (z2 : List Int) (a3 : ByteArray) (w : World) (w0 : (Lit.int .i64 a0).wf = true) (_w1 : (Lit.int .i64 a1).wf = true)
    (w2 : Bw.IsRow .u8 w a2 len2 cap2 z2) (w3 : a3.size ≤ maxLen) (hL : laidMet Tryd.prog Rows.bitsBackRow.laid w) :
    Calls Tryd.prog 6 #[.int .i64 a0, .int .i64 a1, .slice a2 len2 cap2, .string a3] w fun e w' => e = .returned (.bool true) ∧ Below w.heap.size w w' := by
  obtain ⟨l, hl⟩ := Bw.isBytes_of_row w2
  exact Bw.back_any a0 a1 a2 len2 cap2 l a3 w w0 hl w3 (Bw.tabs_of hL (.tail _ (.head _)) (.head _))
end bitsBack
end Go.Proofs.YtcoemhndpmdccaaDoor
