/- How many bytes a frame that came in can have: the row's own reach. -/
import Derived.Test.YtfomempleaceiaaDoorC13
import Derived.SizedLaws
namespace Go.Proofs.YtfomempleaceiaaDoor
open Go.ChangeShapes Go.WideShapes Go.ChangeAt Go.RowKit
namespace Bw
theorem bytes_b1 : Tryd.prog.bytesOf 5 = 1 := by kernel_rfl
set_option maxRecDepth 100000 in
theorem frame_len {H : Type} {enc : TypeId × Value → H} {W : World} {id : Int} {lo fa re : Bool} {sz : Int} {a : Option Addr} {len cap : Nat} {fuel : Nat} {x : DataW H × List MemPlace}
    (hf : DataW.trod enc Tryd.prog W 0 (fun _ => true) true fuel 30 (frameV id lo fa re sz a len cap).cells.toList = some x)
    (hw : (DataW.weights Tryd.prog 30 x.1).all (· ≤ reachBytes) = true) : len ≤ 140737488351232 := by
  obtain ⟨xs, n, _, rfl, _, hlen, hF⟩ := DataW.trod_struct Tryd.underlying30 hf
  have hcv : (frameV id lo fa re sz a len cap).cells.toList = [.int .i64 id, .bool lo, .bool fa, .bool re, .int .i64 sz, .slice a len cap] := rfl
  rw [hcv] at hF
  have h6 : xs.length = 6 := hlen
  obtain ⟨y5, e5⟩ : ∃ y, xs[5]? = some y := ⟨xs[5]'(by omega), List.getElem?_eq_getElem (by omega)⟩
  have f5 := hF 5 _ rfl
  rw [e5] at f5
  have f5 : DataW.trod enc Tryd.prog W 0 (fun _ => true) true n 28 (([Value.int .i64 id, .bool lo, .bool fa, .bool re, .int .i64 sz, .slice a len cap].drop 5).take (Tryd.prog.cellsOf 28)) = some y5 := f5
  rw [row_c1] at f5
  have e6 : ([Value.int .i64 id, .bool lo, .bool fa, .bool re, .int .i64 sz, .slice a len cap].drop 5).take 1 = [.slice a len cap] := rfl
  rw [e6] at f5
  have hwe : (DataW.weightsEach Tryd.prog [3, 4, 4, 4, 3, 28] (xs.map (·.1))).all (· ≤ reachBytes) = true := by
    have hw' := hw
    unfold DataW.weights at hw'
    rw [Tryd.underlying30] at hw'
    exact hw'
  rcases open_ints Tryd.underlying28 Tryd.underlying5 byte_c1 f5 with ⟨q5, _⟩ | ⟨a', len', cap', zs, q5, _, hl, hm, hz, hx5, _, _⟩
  · simp only [List.cons.injEq, and_true, Value.slice.injEq] at q5
    omega
  · simp only [List.cons.injEq, and_true, Value.slice.injEq] at q5
    obtain ⟨-, q6, q7⟩ := q5
    have hd5 : (xs.map (·.1))[5]? = some (.slice (lits .u8 (zs.take len')) (lits .u8 (zs.drop len'))) := by
      rw [List.getElem?_map, e5, hx5]; rfl
    have hs := sized_slice hwe (j := 5) (t := 28) (e := 5) rfl hd5 Tryd.underlying28
    rw [bytes_b1] at hs
    simp only [lits, List.length_map, List.length_take, List.length_drop, reachBytes] at hs
    simp at hz
    omega
end Bw
end Go.Proofs.YtfomempleaceiaaDoor
