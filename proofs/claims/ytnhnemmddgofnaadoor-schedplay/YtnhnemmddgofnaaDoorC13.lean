/- A frame that came in as an argument: its six cells, and its bytes. -/
import Derived.Test.YtnhnemmddgofnaaDoorC1
import Derived.ChangeSlices
import Derived.OpenShut
namespace Go.Proofs.YtnhnemmddgofnaaDoor
open Go.ChangeShapes Go.WideShapes Go.ChangeAt Go.RowKit
namespace Bw
def IsRow (k : IntKind) (w : World) (a : Option Addr) (len cap : Nat) (zs : List Int) : Prop :=
  (a = none ∧ len = 0 ∧ cap = 0 ∧ zs = []) ∨
  ∃ x, a = some x ∧ len ≤ cap ∧ cap ≤ maxLen ∧ zs.length = cap ∧ (∀ i, i < zs.length → w.cell? (x.add i) = some (.int k (zs.getD i 0))) ∧ ∀ n ∈ zs, (Lit.int k n).wf = true
end Bw
end Go.Proofs.YtnhnemmddgofnaaDoor
namespace Go.Proofs.YtnhnemmddgofnaaDoor
open Go.ChangeShapes Go.WideShapes Go.ChangeAt Go.RowKit
namespace Bw
theorem isBytes_of_row {w : World} {a : Option Addr} {len cap : Nat} {zs : List Int} (h : IsRow .u8 w a len cap zs) : ∃ l, IsBytes w a len cap l := by
  rcases h with ⟨rfl, rfl, rfl, rfl⟩ | ⟨x, rfl, hl, hm, hz, hc, hw⟩
  · exact ⟨[], rfl, Nat.le_refl _, Nat.zero_le _, (fun _ => rfl), (fun x hx => by cases hx)⟩
  · refine ⟨(zs.take len).map fun z => UInt8.ofNat z.toNat, by simp; omega, hl, hm, (fun h => by cases h), ?_⟩
    intro y hy i hi
    cases hy
    rw [hc i (by omega)]
    have hi' : i < zs.length := by omega
    have hb : 0 ≤ zs[i] ∧ zs[i] ≤ 255 := by
      have := hw zs[i] (List.getElem_mem _)
      simpa [Lit.wf, IntKind.min, IntKind.max, IntKind.signed, IntKind.bits] using this
    have e1 : zs.getD i 0 = zs[i] := by simp [List.getD, hi']
    have e2 : ((zs.take len).map fun z => UInt8.ofNat z.toNat).getD i 0 = UInt8.ofNat zs[i].toNat := by
      simp [List.getD, hi, hi']
    rw [e1, e2]
    have e3 : (UInt8.ofNat zs[i].toNat).toNat = zs[i].toNat := by
      rw [UInt8.toNat_ofNat']; omega
    rw [e3]
    congr 2
    omega
end Bw
end Go.Proofs.YtnhnemmddgofnaaDoor
namespace Go.Proofs.YtnhnemmddgofnaaDoor
open Go.ChangeShapes Go.WideShapes Go.ChangeAt Go.RowKit
namespace Bw

theorem six_cells {l : List Value} (h : l.length = 6) : ∃ c0 c1 c2 c3 c4 c5, l = [c0, c1, c2, c3, c4, c5] := by
  match l, h with
  | [c0, c1, c2, c3, c4, c5], _ => exact ⟨c0, c1, c2, c3, c4, c5, rfl⟩
theorem frame_c : Tryd.prog.cellsOf 80 = 6 := by kernel_rfl
theorem int_c1 : Tryd.prog.cellsOf 3 = 1 := by kernel_rfl
theorem bool_c1 : Tryd.prog.cellsOf 4 = 1 := by kernel_rfl
theorem row_c1 : Tryd.prog.cellsOf 78 = 1 := by kernel_rfl
theorem byte_c1 : Tryd.prog.cellsOf 5 = 1 := by kernel_rfl
/-- the value of a frame -/
def frameV (id : Int) (lo fa re : Bool) (sz : Int) (a : Option Addr) (len cap : Nat) : Value := .agg #[.int .i64 id, .bool lo, .bool fa, .bool re, .int .i64 sz, .slice a len cap]
set_option maxRecDepth 100000 in
theorem open_frame {H : Type} {enc : TypeId × Value → H} {W : World} {base : Nat} {v : Value} {fuel : Nat} {x : DataW H × List MemPlace} (hv : Value.okWide Tryd.prog W .any base 80 v)
    (hf : DataW.trod enc Tryd.prog W 0 (fun _ => true) true fuel 80 v.cells.toList = some x) :
    ∃ id lo fa re sz a len cap zs, v = frameV id lo fa re sz a len cap ∧ (Lit.int .i64 id).wf = true ∧ (Lit.int .i64 sz).wf = true ∧ IsRow .u8 W a len cap zs := by
  obtain ⟨cs, rfl, hcs⟩ := okWide_struct Tryd.underlying80 hv
  rw [frame_c] at hcs
  obtain ⟨xs, n, _, rfl, _, hlen, hF⟩ := DataW.trod_struct Tryd.underlying80 hf
  obtain ⟨c0, c1, c2, c3, c4, c5, hc⟩ := six_cells (l := cs.toList) (by simpa using hcs)
  have hcv : (Value.agg cs).cells.toList = [c0, c1, c2, c3, c4, c5] := hc
  rw [hcv] at hF
  have h6 : xs.length = 6 := hlen
  have g : ∀ i, i < 6 → ∃ y, xs[i]? = some y := fun i hi => ⟨xs[i]'(by omega), List.getElem?_eq_getElem (by omega)⟩
  obtain ⟨y0, e0⟩ := g 0 (by omega)
  obtain ⟨y1, e1⟩ := g 1 (by omega)
  obtain ⟨y2, e2⟩ := g 2 (by omega)
  obtain ⟨y3, e3⟩ := g 3 (by omega)
  obtain ⟨y4, e4⟩ := g 4 (by omega)
  obtain ⟨y5, e5⟩ := g 5 (by omega)
  have f0 := hF 0 _ rfl
  have f1 := hF 1 _ rfl
  have f2 := hF 2 _ rfl
  have f3 := hF 3 _ rfl
  have f4 := hF 4 _ rfl
  have f5 := hF 5 _ rfl
  rw [e0] at f0
  rw [e1] at f1
  rw [e2] at f2
  rw [e3] at f3
  rw [e4] at f4
  rw [e5] at f5
  obtain ⟨id, q0, _, w0⟩ := DataW.trod_int Tryd.underlying3 f0
  obtain ⟨lo, q1, _⟩ := DataW.trod_bool Tryd.underlying4 f1
  obtain ⟨fa, q2, _⟩ := DataW.trod_bool Tryd.underlying4 f2
  obtain ⟨re, q3, _⟩ := DataW.trod_bool Tryd.underlying4 f3
  obtain ⟨sz, q4, _, w4⟩ := DataW.trod_int Tryd.underlying3 f4
  have p0 : ([c0, c1, c2, c3, c4, c5].drop 0).take (Tryd.prog.cellsOf 3) = [.int .i64 id] := q0
  have p1 : ([c0, c1, c2, c3, c4, c5].drop 1).take (Tryd.prog.cellsOf 4) = [.bool lo] := q1
  have p2 : ([c0, c1, c2, c3, c4, c5].drop 2).take (Tryd.prog.cellsOf 4) = [.bool fa] := q2
  have p3 : ([c0, c1, c2, c3, c4, c5].drop 3).take (Tryd.prog.cellsOf 4) = [.bool re] := q3
  have p4 : ([c0, c1, c2, c3, c4, c5].drop 4).take (Tryd.prog.cellsOf 3) = [.int .i64 sz] := q4
  rw [int_c1] at p0 p4
  rw [bool_c1] at p1 p2 p3
  have q0 : c0 = .int .i64 id := by simpa using p0
  have q1 : c1 = .bool lo := by simpa using p1
  have q2 : c2 = .bool fa := by simpa using p2
  have q3 : c3 = .bool re := by simpa using p3
  have q4 : c4 = .int .i64 sz := by simpa using p4
  have hrow : ∃ a len cap zs, c5 = .slice a len cap ∧ IsRow .u8 W a len cap zs := by
    have f5 : DataW.trod enc Tryd.prog W 0 (fun _ => true) true n 78 (([c0, c1, c2, c3, c4, c5].drop 5).take (Tryd.prog.cellsOf 78)) = some y5 := f5
    rw [row_c1] at f5
    have e5 : ([c0, c1, c2, c3, c4, c5].drop 5).take 1 = [c5] := rfl
    rw [e5] at f5
    rcases open_ints Tryd.underlying78 Tryd.underlying5 byte_c1 f5 with ⟨q5, _⟩ | ⟨a, len, cap, zs, q5, _, hl, hm, hz, _, hcell, hw⟩
    · simp only [List.cons.injEq, and_true] at q5
      exact ⟨none, 0, 0, [], q5, .inl ⟨rfl, rfl, rfl, rfl⟩⟩
    · simp only [List.cons.injEq, and_true] at q5
      exact ⟨some a, len, cap, zs, q5, .inr ⟨a, rfl, hl, hm, by simpa using hz, hcell, hw⟩⟩
  obtain ⟨a, len, cap, zs, q5, hr⟩ := hrow
  refine ⟨id, lo, fa, re, sz, a, len, cap, zs, ?_, w0, w4, hr⟩
  unfold frameV
  rw [← q0, ← q1, ← q2, ← q3, ← q4, ← q5]
  congr 1
  apply Array.toList_inj.1
  rw [hc]
end Bw
end Go.Proofs.YtnhnemmddgofnaaDoor
