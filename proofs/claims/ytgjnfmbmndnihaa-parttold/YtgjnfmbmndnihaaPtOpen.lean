/- A getter or a sender that came in as an argument: its five cells, and its bytes. -/
import Derived.Test.YtgjnfmbmndnihaaIsRow
import Derived.Test.YtgjnfmbmndnihaaPtVar
import Derived.ChangeSlices
import Derived.OpenShut
namespace Go.Proofs.Ytgjnfmbmndnihaa
open Go.ChangeShapes Go.WideShapes Go.ChangeAt Go.RowKit
namespace Bw
set_option linter.unusedVariables false
theorem five_cells {l : List Value} (h : l.length = 5) : ∃ c0 c1 c2 c3 c4, l = [c0, c1, c2, c3, c4] := by
  match l, h with
  | [c0, c1, c2, c3, c4], _ => exact ⟨c0, c1, c2, c3, c4, rfl⟩
theorem getter_c : Try.prog.cellsOf 44 = 5 := by kernel_rfl
theorem sender_c : Try.prog.cellsOf 28 = 5 := by kernel_rfl
theorem int_c1 : Try.prog.cellsOf 3 = 1 := by kernel_rfl
theorem bool_c1 : Try.prog.cellsOf 4 = 1 := by kernel_rfl
theorem row_c1 : Try.prog.cellsOf 22 = 1 := by kernel_rfl
theorem byte_c1 : Try.prog.cellsOf 5 = 1 := by kernel_rfl
set_option maxRecDepth 100000 in
theorem open_getter {H : Type} {enc : TypeId × Value → H} {W : World} {base : Nat} {v : Value} {fuel : Nat} {x : DataW H × List MemPlace} (hv : Value.okWide Try.prog W .any base 44 v)
    (hf : DataW.trod enc Try.prog W 0 (fun _ => true) true fuel 44 v.cells.toList = some x) :
    ∃ want next block left a len cap zs, v = gtV want a len cap next block left ∧ IsRow .u8 W a len cap zs := by
  obtain ⟨cs, rfl, hcs⟩ := okWide_struct Try.underlying44 hv
  rw [getter_c] at hcs
  obtain ⟨xs, n, _, rfl, _, hlen, hF⟩ := DataW.trod_struct Try.underlying44 hf
  obtain ⟨c0, c1, c2, c3, c4, hc⟩ := five_cells (l := cs.toList) (by simpa using hcs)
  have hcv : (Value.agg cs).cells.toList = [c0, c1, c2, c3, c4] := hc
  rw [hcv] at hF
  have h5 : xs.length = 5 := hlen
  have g : ∀ i, i < 5 → ∃ y, xs[i]? = some y := fun i hi => ⟨xs[i]'(by omega), List.getElem?_eq_getElem (by omega)⟩
  obtain ⟨y0, e0⟩ := g 0 (by omega)
  obtain ⟨y1, e1⟩ := g 1 (by omega)
  obtain ⟨y2, e2⟩ := g 2 (by omega)
  obtain ⟨y3, e3⟩ := g 3 (by omega)
  obtain ⟨y4, e4⟩ := g 4 (by omega)
  have f0 := hF 0 _ rfl
  have f1 := hF 1 _ rfl
  have f2 := hF 2 _ rfl
  have f3 := hF 3 _ rfl
  have f4 := hF 4 _ rfl
  rw [e0] at f0
  rw [e1] at f1
  rw [e2] at f2
  rw [e3] at f3
  rw [e4] at f4
  obtain ⟨want, q0, _, w0⟩ := DataW.trod_int Try.underlying3 f0
  have p0 : ([c0, c1, c2, c3, c4].drop 0).take (Try.prog.cellsOf 3) = [.int .i64 want] := q0
  rw [int_c1] at p0
  have q0 : c0 = .int .i64 want := by simpa using p0
  obtain ⟨next, q2, _, w2⟩ := DataW.trod_int Try.underlying3 f2
  have p2 : ([c0, c1, c2, c3, c4].drop 2).take (Try.prog.cellsOf 3) = [.int .i64 next] := q2
  rw [int_c1] at p2
  have q2 : c2 = .int .i64 next := by simpa using p2
  obtain ⟨block, q3, _, w3⟩ := DataW.trod_int Try.underlying3 f3
  have p3 : ([c0, c1, c2, c3, c4].drop 3).take (Try.prog.cellsOf 3) = [.int .i64 block] := q3
  rw [int_c1] at p3
  have q3 : c3 = .int .i64 block := by simpa using p3
  obtain ⟨left, q4, _, w4⟩ := DataW.trod_int Try.underlying3 f4
  have p4 : ([c0, c1, c2, c3, c4].drop 4).take (Try.prog.cellsOf 3) = [.int .i64 left] := q4
  rw [int_c1] at p4
  have q4 : c4 = .int .i64 left := by simpa using p4
  have hrow : ∃ a len cap zs, c1 = .slice a len cap ∧ IsRow .u8 W a len cap zs := by
    have f1 : DataW.trod enc Try.prog W 0 (fun _ => true) true n 22 (([c0, c1, c2, c3, c4].drop 1).take (Try.prog.cellsOf 22)) = some y1 := f1
    rw [row_c1] at f1
    have e1 : ([c0, c1, c2, c3, c4].drop 1).take 1 = [c1] := rfl
    rw [e1] at f1
    rcases open_ints Try.underlying22 Try.underlying5 byte_c1 f1 with ⟨q5, _⟩ | ⟨a, len, cap, zs, q5, _, hl, hm, hz, _, hcell, hw⟩
    · simp only [List.cons.injEq, and_true] at q5
      exact ⟨none, 0, 0, [], q5, .inl ⟨rfl, rfl, rfl, rfl⟩⟩
    · simp only [List.cons.injEq, and_true] at q5
      exact ⟨some a, len, cap, zs, q5, .inr ⟨a, rfl, hl, hm, by simpa using hz, hcell, hw⟩⟩
  obtain ⟨a, len, cap, zs, q1, hr⟩ := hrow
  refine ⟨want, next, block, left, a, len, cap, zs, ?_, hr⟩
  unfold gtV
  rw [← q0, ← q1, ← q2, ← q3, ← q4]
  congr 1
  apply Array.toList_inj.1
  rw [hc]
set_option maxRecDepth 100000 in
theorem open_sender {H : Type} {enc : TypeId × Value → H} {W : World} {base : Nat} {v : Value} {fuel : Nat} {x : DataW H × List MemPlace} (hv : Value.okWide Try.prog W .any base 28 v)
    (hf : DataW.trod enc Try.prog W 0 (fun _ => true) true fuel 28 v.cells.toList = some x) :
    ∃ k next left done a len cap zs, v = sdV a len cap k next left done ∧ IsRow .u8 W a len cap zs := by
  obtain ⟨cs, rfl, hcs⟩ := okWide_struct Try.underlying28 hv
  rw [sender_c] at hcs
  obtain ⟨xs, n, _, rfl, _, hlen, hF⟩ := DataW.trod_struct Try.underlying28 hf
  obtain ⟨c0, c1, c2, c3, c4, hc⟩ := five_cells (l := cs.toList) (by simpa using hcs)
  have hcv : (Value.agg cs).cells.toList = [c0, c1, c2, c3, c4] := hc
  rw [hcv] at hF
  have h5 : xs.length = 5 := hlen
  have g : ∀ i, i < 5 → ∃ y, xs[i]? = some y := fun i hi => ⟨xs[i]'(by omega), List.getElem?_eq_getElem (by omega)⟩
  obtain ⟨y0, e0⟩ := g 0 (by omega)
  obtain ⟨y1, e1⟩ := g 1 (by omega)
  obtain ⟨y2, e2⟩ := g 2 (by omega)
  obtain ⟨y3, e3⟩ := g 3 (by omega)
  obtain ⟨y4, e4⟩ := g 4 (by omega)
  have f0 := hF 0 _ rfl
  have f1 := hF 1 _ rfl
  have f2 := hF 2 _ rfl
  have f3 := hF 3 _ rfl
  have f4 := hF 4 _ rfl
  rw [e0] at f0
  rw [e1] at f1
  rw [e2] at f2
  rw [e3] at f3
  rw [e4] at f4
  obtain ⟨k, q1, _, w1⟩ := DataW.trod_int Try.underlying3 f1
  have p1 : ([c0, c1, c2, c3, c4].drop 1).take (Try.prog.cellsOf 3) = [.int .i64 k] := q1
  rw [int_c1] at p1
  have q1 : c1 = .int .i64 k := by simpa using p1
  obtain ⟨next, q2, _, w2⟩ := DataW.trod_int Try.underlying3 f2
  have p2 : ([c0, c1, c2, c3, c4].drop 2).take (Try.prog.cellsOf 3) = [.int .i64 next] := q2
  rw [int_c1] at p2
  have q2 : c2 = .int .i64 next := by simpa using p2
  obtain ⟨left, q3, _, w3⟩ := DataW.trod_int Try.underlying3 f3
  have p3 : ([c0, c1, c2, c3, c4].drop 3).take (Try.prog.cellsOf 3) = [.int .i64 left] := q3
  rw [int_c1] at p3
  have q3 : c3 = .int .i64 left := by simpa using p3
  obtain ⟨done, q4, _⟩ := DataW.trod_bool Try.underlying4 f4
  have p4 : ([c0, c1, c2, c3, c4].drop 4).take (Try.prog.cellsOf 4) = [.bool done] := q4
  rw [bool_c1] at p4
  have q4 : c4 = .bool done := by simpa using p4
  have hrow : ∃ a len cap zs, c0 = .slice a len cap ∧ IsRow .u8 W a len cap zs := by
    have f0 : DataW.trod enc Try.prog W 0 (fun _ => true) true n 22 (([c0, c1, c2, c3, c4].drop 0).take (Try.prog.cellsOf 22)) = some y0 := f0
    rw [row_c1] at f0
    have e0 : ([c0, c1, c2, c3, c4].drop 0).take 1 = [c0] := rfl
    rw [e0] at f0
    rcases open_ints Try.underlying22 Try.underlying5 byte_c1 f0 with ⟨q5, _⟩ | ⟨a, len, cap, zs, q5, _, hl, hm, hz, _, hcell, hw⟩
    · simp only [List.cons.injEq, and_true] at q5
      exact ⟨none, 0, 0, [], q5, .inl ⟨rfl, rfl, rfl, rfl⟩⟩
    · simp only [List.cons.injEq, and_true] at q5
      exact ⟨some a, len, cap, zs, q5, .inr ⟨a, rfl, hl, hm, by simpa using hz, hcell, hw⟩⟩
  obtain ⟨a, len, cap, zs, q0, hr⟩ := hrow
  refine ⟨k, next, left, done, a, len, cap, zs, ?_, hr⟩
  unfold sdV
  rw [← q0, ← q1, ← q2, ← q3, ← q4]
  congr 1
  apply Array.toList_inj.1
  rw [hc]
end Bw
end Go.Proofs.Ytgjnfmbmndnihaa
