/- Messages that came in as a list. -/
import Derived.Test.YtlnkhlifkooohaaGreatDoorMsgOpen
namespace Go.Proofs.YtlnkhlifkooohaaGreatDoor
open Go.ChangeShapes Go.WideShapes Go.ChangeAt Go.RowKit
namespace Bw
open Sm
set_option maxRecDepth 100000 in
theorem open_msgs {H : Type} {enc : TypeId × Value → H} {W : World} {fuel : Nat} {a : Option Addr} {n cap : Nat} {x : DataW H × List MemPlace}
    (hf : DataW.trod enc Tryz.prog W 0 (fun _ => true) true fuel 51 [.slice a n cap] = some x) : ∃ l, IsMsgs W a n cap l := by
  obtain ⟨l, h1, h2⟩ := open_row msCl (MsIn W) 51 24 6 Tryz.underlying51 mmsg_c (fun _ _ _ hl h => open_msg_cells hl h) hf
  exact ⟨l, h1, h2⟩
end Bw
end Go.Proofs.YtlnkhlifkooohaaGreatDoor
