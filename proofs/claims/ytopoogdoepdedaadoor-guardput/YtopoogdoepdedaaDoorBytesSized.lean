/- How many bytes can have come in: the row's own reach. -/
import Derived.Test.YtopoogdoepdedaaDoorIsRow
import Derived.SizedLaws
namespace Go.Proofs.YtopoogdoepdedaaDoor
open Go.ChangeShapes Go.WideShapes Go.ChangeAt Go.RowKit
namespace Bw
theorem bytes_u8 : Tryd.prog.bytesOf 5 = 1 := by kernel_rfl
theorem bytes_len {H : Type} {enc : TypeId × Value → H} {W : World} {a : Option Addr} {n cap : Nat} {fuel : Nat} {x : DataW H × List MemPlace}
    (hf : DataW.trod enc Tryd.prog W 0 (fun _ => true) true fuel 22 (Value.slice a n cap).cells.toList = some x)
    (hw : (DataW.weights Tryd.prog 22 x.1).all (· ≤ reachBytes) = true) : n ≤ 140737488351232 := by
  have hcv : (Value.slice a n cap).cells.toList = [.slice a n cap] := rfl
  rw [hcv] at hf
  rcases DataW.trod_slice Tryd.underlying22 hf with ⟨h0, _⟩ | ⟨y, len, cp, elems, rest, m, _, h0, hx, _, hl, hm, hlen, _, _, _⟩
  · simp only [List.cons.injEq, and_true, Value.slice.injEq] at h0
    omega
  · simp only [List.cons.injEq, and_true, Value.slice.injEq] at h0
    obtain ⟨_, rfl, rfl⟩ := h0
    subst hx
    unfold DataW.weights at hw
    simp only [Tryd.underlying22, List.all_cons, Bool.and_eq_true, bytes_u8, List.length_map] at hw
    have h1 := of_decide_eq_true hw.1
    unfold reachBytes at h1
    omega
end Bw
end Go.Proofs.YtopoogdoepdedaaDoor
