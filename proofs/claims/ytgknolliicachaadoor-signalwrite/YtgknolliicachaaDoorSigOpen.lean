/- A signal that came in as an argument. -/
import Derived.Test.YtgknolliicachaaDoorIsRow
import Derived.Test.YtgknolliicachaaDoorSgCheck
import Derived.ChangeSlices
import Derived.OpenShut
namespace Go.Proofs.YtgknolliicachaaDoor
open Go.ChangeShapes Go.WideShapes Go.ChangeAt Go.RowKit
namespace Bw
theorem nine_cells {l : List Value} (h : l.length = 9) : ∃ c0 c1 c2 c3 c4 c5 c6 c7 c8, l = [c0, c1, c2, c3, c4, c5, c6, c7, c8] := by
  match l, h with
  | [c0, c1, c2, c3, c4, c5, c6, c7, c8], _ => exact ⟨c0, c1, c2, c3, c4, c5, c6, c7, c8, rfl⟩
theorem sig_c : Tryd.prog.cellsOf 23 = 9 := by kernel_rfl
theorem sint_c1 : Tryd.prog.cellsOf 3 = 1 := by kernel_rfl
theorem sbool_c1 : Tryd.prog.cellsOf 4 = 1 := by kernel_rfl
theorem sstr_c1 : Tryd.prog.cellsOf 9 = 1 := by kernel_rfl
set_option maxRecDepth 100000 in
theorem open_sig {H : Type} {enc : TypeId × Value → H} {W : World} {base : Nat} {v : Value} {fuel : Nat} {x : DataW H × List MemPlace} (hv : Value.okWide Tryd.prog W .any base 23 v)
    (hf : DataW.trod enc Tryd.prog W 0 (fun _ => true) true fuel 23 v.cells.toList = some x) :
    ∃ s : Sig, v = sgV s ∧ wfS s := by
  obtain ⟨cs, rfl, hcs⟩ := okWide_struct Tryd.underlying23 hv
  rw [sig_c] at hcs
  obtain ⟨xs, n, _, rfl, _, hlen, hF⟩ := DataW.trod_struct Tryd.underlying23 hf
  obtain ⟨c0, c1, c2, c3, c4, c5, c6, c7, c8, hc⟩ := nine_cells (l := cs.toList) (by simpa using hcs)
  have hcv : (Value.agg cs).cells.toList = [c0, c1, c2, c3, c4, c5, c6, c7, c8] := hc
  rw [hcv] at hF
  have h9 : xs.length = 9 := hlen
  have g : ∀ i, i < 9 → ∃ y, xs[i]? = some y := fun i hi => ⟨xs[i]'(by omega), List.getElem?_eq_getElem (by omega)⟩
  obtain ⟨y0, e0⟩ := g 0 (by omega)
  obtain ⟨y1, e1⟩ := g 1 (by omega)
  obtain ⟨y2, e2⟩ := g 2 (by omega)
  obtain ⟨y3, e3⟩ := g 3 (by omega)
  obtain ⟨y4, e4⟩ := g 4 (by omega)
  obtain ⟨y5, e5⟩ := g 5 (by omega)
  obtain ⟨y6, e6⟩ := g 6 (by omega)
  obtain ⟨y7, e7⟩ := g 7 (by omega)
  obtain ⟨y8, e8⟩ := g 8 (by omega)
  have f0 := hF 0 _ rfl
  have f1 := hF 1 _ rfl
  have f2 := hF 2 _ rfl
  have f3 := hF 3 _ rfl
  have f4 := hF 4 _ rfl
  have f5 := hF 5 _ rfl
  have f6 := hF 6 _ rfl
  have f7 := hF 7 _ rfl
  have f8 := hF 8 _ rfl
  rw [e0] at f0
  rw [e1] at f1
  rw [e2] at f2
  rw [e3] at f3
  rw [e4] at f4
  rw [e5] at f5
  rw [e6] at f6
  rw [e7] at f7
  rw [e8] at f8
  obtain ⟨nm, q0, _, w0⟩ := DataW.trod_string Tryd.underlying9 f0
  obtain ⟨st, q1, _, w1⟩ := DataW.trod_int Tryd.underlying3 f1
  obtain ⟨sz, q2, _⟩ := DataW.trod_int Tryd.underlying3 f2
  obtain ⟨bk, q3, _⟩ := DataW.trod_bool Tryd.underlying4 f3
  obtain ⟨sg, q4, _⟩ := DataW.trod_bool Tryd.underlying4 f4
  obtain ⟨mu, q5, _⟩ := DataW.trod_int Tryd.underlying3 f5
  obtain ⟨di, q6, _⟩ := DataW.trod_int Tryd.underlying3 f6
  obtain ⟨ad, q7, _⟩ := DataW.trod_int Tryd.underlying3 f7
  obtain ⟨ky, q8, _⟩ := DataW.trod_int Tryd.underlying3 f8
  have p0 : ([c0, c1, c2, c3, c4, c5, c6, c7, c8].drop 0).take (Tryd.prog.cellsOf 9) = [.string nm] := q0
  have p1 : ([c0, c1, c2, c3, c4, c5, c6, c7, c8].drop 1).take (Tryd.prog.cellsOf 3) = [.int .i64 st] := q1
  have p2 : ([c0, c1, c2, c3, c4, c5, c6, c7, c8].drop 2).take (Tryd.prog.cellsOf 3) = [.int .i64 sz] := q2
  have p3 : ([c0, c1, c2, c3, c4, c5, c6, c7, c8].drop 3).take (Tryd.prog.cellsOf 4) = [.bool bk] := q3
  have p4 : ([c0, c1, c2, c3, c4, c5, c6, c7, c8].drop 4).take (Tryd.prog.cellsOf 4) = [.bool sg] := q4
  have p5 : ([c0, c1, c2, c3, c4, c5, c6, c7, c8].drop 5).take (Tryd.prog.cellsOf 3) = [.int .i64 mu] := q5
  have p6 : ([c0, c1, c2, c3, c4, c5, c6, c7, c8].drop 6).take (Tryd.prog.cellsOf 3) = [.int .i64 di] := q6
  have p7 : ([c0, c1, c2, c3, c4, c5, c6, c7, c8].drop 7).take (Tryd.prog.cellsOf 3) = [.int .i64 ad] := q7
  have p8 : ([c0, c1, c2, c3, c4, c5, c6, c7, c8].drop 8).take (Tryd.prog.cellsOf 3) = [.int .i64 ky] := q8
  rw [sint_c1] at p1 p2 p5 p6 p7 p8
  rw [sbool_c1] at p3 p4
  rw [sstr_c1] at p0
  have r0 : c0 = .string nm := by simpa using p0
  have r1 : c1 = .int .i64 st := by simpa using p1
  have r2 : c2 = .int .i64 sz := by simpa using p2
  have r3 : c3 = .bool bk := by simpa using p3
  have r4 : c4 = .bool sg := by simpa using p4
  have r5 : c5 = .int .i64 mu := by simpa using p5
  have r6 : c6 = .int .i64 di := by simpa using p6
  have r7 : c7 = .int .i64 ad := by simpa using p7
  have r8 : c8 = .int .i64 ky := by simpa using p8
  have hst : -9223372036854775808 ≤ st ∧ st ≤ 9223372036854775807 := by
    simpa [Lit.wf, IntKind.min, IntKind.max, IntKind.signed, IntKind.bits] using w1
  refine ⟨⟨nm, st, sz, bk, sg, mu, di, ad, ky⟩, ?_, hst, by unfold maxLen at w0; exact Nat.le_trans w0 (by decide)⟩
  unfold sgV
  simp only
  rw [← r0, ← r1, ← r2, ← r3, ← r4, ← r5, ← r6, ← r7, ← r8]
  congr 1
  apply Array.toList_inj.1
  exact hc
end Bw
end Go.Proofs.YtgknolliicachaaDoor
