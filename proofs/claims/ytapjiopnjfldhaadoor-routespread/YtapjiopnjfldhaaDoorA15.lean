/- The table of the numbers of bytes off the row's own condition. -/
import Derived.Test.YtapjiopnjfldhaaDoorRows
import Derived.Test.YtapjiopnjfldhaaDoorA4
import Derived.ChangeSlices
import Derived.OpenShut
import Derived.Lib.LaidU8
import Derived.Test.YtapjiopnjfldhaaDoorFrSmall
namespace Go.Proofs.YtapjiopnjfldhaaDoor
open Go.ChangeShapes Go.WideShapes Go.ChangeAt Go.RowKit
namespace Bw
theorem lst_eq : Rows.laid_omnibus_filter_lasts (H := Unit) = Lib.tabData .i64 [2047, 536870911] := by kernel_rfl
theorem lst_t : Tryd.prog.underlying 136 = some (.array 2 3) := by kernel_rfl
theorem lst_c : Tryd.prog.cellsOf 136 = 2 := by kernel_rfl
theorem lst_c1 : Tryd.prog.cellsOf 3 = 1 := by kernel_rfl
theorem lst_b1 : Tryd.prog.cellsOf 4 = 1 := by kernel_rfl
theorem lst_f3 : Tryd.prog.cellsOf 43 = 3 := by kernel_rfl
theorem lst_g : Tryd.prog.globalNamed "omnibus/filter.lasts" = some 1 := by kernel_rfl
theorem lst_y : (Tryd.prog.globals[1]?).map (·.type) = some 136 := by kernel_rfl
theorem lasts_of {W : World} {laid : List (String × DataW Unit)} (hL : laidMet Tryd.prog laid W)
    (h1 : ("omnibus/filter.lasts", Rows.laid_omnibus_filter_lasts) ∈ laid) : LastsAt W := by
  obtain ⟨g, t, cs, fuel, p, hg, hty, hvar, hd⟩ := Lib.laidMet.reads hL h1
  obtain rfl := Option.some.inj (lst_g.symm.trans hg)
  obtain rfl := Option.some.inj (lst_y.symm.trans hty)
  rw [lst_eq] at hd
  have hcs := Lib.cells_of_tab lst_t Tryd.underlying3 lst_c1 lst_c hd
  have hc := fun i => World.var?_cell hg hvar i
  refine ⟨?_, ?_⟩
  · rw [hc, ← Array.getElem?_toList, hcs]; rfl
  · rw [hc, ← Array.getElem?_toList, hcs]; rfl
theorem fil_cells {l : List Value} (h : l.length = 3) : ∃ c0 c1 c2, l = [c0, c1, c2] := by
  match l, h with
  | [c0, c1, c2], _ => exact ⟨c0, c1, c2, rfl⟩
set_option maxRecDepth 100000 in
theorem open_fil_cells {H : Type} {enc : TypeId × Value → H} {W : World} {fuel : Nat} {cs : List Value} {x : DataW H × List MemPlace} (hcs : cs.length = 3)
    (hf : DataW.trod enc Tryd.prog W 0 (fun _ => true) true fuel 43 cs = some x) : ∃ v : Fl, cs = v.cells := by
  obtain ⟨xs, n, _, rfl, _, hlen, hF⟩ := DataW.trod_struct Tryd.underlying43 hf
  obtain ⟨c0, c1, c2, hc⟩ := fil_cells hcs
  rw [hc] at hF
  have h3 : xs.length = 3 := hlen
  have g : ∀ i, i < 3 → ∃ y, xs[i]? = some y := fun i hi => ⟨xs[i]'(by omega), List.getElem?_eq_getElem (by omega)⟩
  obtain ⟨y0, e0⟩ := g 0 (by omega)
  obtain ⟨y1, e1⟩ := g 1 (by omega)
  obtain ⟨y2, e2⟩ := g 2 (by omega)
  have f0 := hF 0 _ rfl
  have f1 := hF 1 _ rfl
  have f2 := hF 2 _ rfl
  rw [e0] at f0
  rw [e1] at f1
  rw [e2] at f2
  obtain ⟨s, q0, _, _⟩ := DataW.trod_int Tryd.underlying3 f0
  obtain ⟨m, q1, _, _⟩ := DataW.trod_int Tryd.underlying3 f1
  obtain ⟨b, q2, _⟩ := DataW.trod_bool Tryd.underlying4 f2
  have p0 : ([c0, c1, c2].drop 0).take (Tryd.prog.cellsOf 3) = [.int .i64 s] := q0
  have p1 : ([c0, c1, c2].drop 1).take (Tryd.prog.cellsOf 3) = [.int .i64 m] := q1
  have p2 : ([c0, c1, c2].drop 2).take (Tryd.prog.cellsOf 4) = [.bool b] := q2
  rw [lst_c1] at p0 p1
  rw [lst_b1] at p2
  have q0 : c0 = .int .i64 s := by simpa using p0
  have q1 : c1 = .int .i64 m := by simpa using p1
  have q2 : c2 = .bool b := by simpa using p2
  exact ⟨⟨s, m, b⟩, by rw [hc, q0, q1, q2]; rfl⟩
set_option maxRecDepth 100000 in
theorem open_fils {H : Type} {enc : TypeId × Value → H} {W : World} {fuel : Nat} {a : Option Addr} {n cap : Nat} {x : DataW H × List MemPlace}
    (hf : DataW.trod enc Tryd.prog W 0 (fun _ => true) true fuel 75 [.slice a n cap] = some x) : ∃ l, IsFils W a n cap l := by
  rcases DataW.trod_slice Tryd.underlying75 hf with ⟨h0, _⟩ | ⟨y, len, cp, elems, rest, m, _, h0, _, _, hl, hm, hlen, hel, _, _⟩
  · simp only [List.cons.injEq, and_true, Value.slice.injEq] at h0
    obtain ⟨rfl, rfl, rfl⟩ := h0
    exact ⟨[], rfl, Nat.le_refl _, Nat.zero_le _, fun _ => rfl, (fun _ h => by cases h)⟩
  · simp only [List.cons.injEq, and_true, Value.slice.injEq] at h0
    obtain ⟨rfl, rfl, rfl⟩ := h0
    have each : ∀ i, i < n → ∃ v : Fl, W.cell? (y.add (i * 3)) = some (.int .i64 v.w) ∧ W.cell? (y.add (i * 3 + 1)) = some (.int .i64 v.m) ∧ W.cell? (y.add (i * 3 + 2)) = some (.bool v.lo) := by
      intro i hi
      have h1 := hel i hi
      rw [List.getElem?_eq_getElem (by omega), Option.bind_eq_some_iff] at h1
      obtain ⟨cs, h2, h3⟩ := h1
      rw [lst_f3] at h2
      have h4 := World.cells?_some h2
      obtain ⟨v, rfl⟩ := open_fil_cells (by exact h4.2.1) h3
      have e : ∀ k, (y.add (i * 3)).add k = y.add (i * 3 + k) := by
        intro k
        first | exact Addr.add_add _ _ _ | (unfold Addr.add; simp; omega)
      have h5 := fun k hk => h4.2.2 k hk
      have h50 := h5 0 (by omega)
      have h51 := h5 1 (by omega)
      have h52 := h5 2 (by omega)
      rw [e] at h50 h51 h52
      exact ⟨v, h50, h51, h52⟩
    let g : Nat → Fl := fun i => if h : i < n then (each i h).choose else noF
    have hg : ∀ i (h : i < n), W.cell? (y.add (i * 3)) = some (.int .i64 (g i).w) ∧ W.cell? (y.add (i * 3 + 1)) = some (.int .i64 (g i).m) ∧ W.cell? (y.add (i * 3 + 2)) = some (.bool (g i).lo) := by
      intro i h
      have e : g i = (each i h).choose := by show (if h : i < n then _ else _) = _; rw [dif_pos h]
      rw [e]
      exact (each i h).choose_spec
    refine ⟨(List.range n).map g, by simp, hl, hm, (fun h => by cases h), ?_⟩
    intro z hz i hi
    cases hz
    have e : ((List.range n).map g).getD i noF = g i := by simp [List.getD, hi]
    rw [e]
    exact hg i hi
end Bw
end Go.Proofs.YtapjiopnjfldhaaDoor
namespace Go.Proofs.YtapjiopnjfldhaaDoor
open Go.ChangeShapes Go.WideShapes Go.ChangeAt Go.RowKit
namespace Bw
theorem fsz_eq : Rows.laid_omnibus_frame_sizes (H := Unit) = Lib.tabData .i64 sizesI := by kernel_rfl
theorem fsz_t : Tryd.prog.underlying 128 = some (.array 16 3) := by kernel_rfl
theorem fsz_c : Tryd.prog.cellsOf 128 = 16 := by kernel_rfl
theorem fsz_c1 : Tryd.prog.cellsOf 3 = 1 := by kernel_rfl
theorem fsz_g : Tryd.prog.globalNamed "omnibus/frame.sizes" = some 0 := by kernel_rfl
theorem fsz_y : (Tryd.prog.globals[0]?).map (·.type) = some 128 := by kernel_rfl
theorem sizes_of {W : World} {laid : List (String × DataW Unit)} (hL : laidMet Tryd.prog laid W)
    (h1 : ("omnibus/frame.sizes", Rows.laid_omnibus_frame_sizes) ∈ laid) : SizesAt W := by
  obtain ⟨g, t, cs, fuel, p, hg, hty, hvar, hd⟩ := Lib.laidMet.reads hL h1
  obtain rfl := Option.some.inj (fsz_g.symm.trans hg)
  obtain rfl := Option.some.inj (fsz_y.symm.trans hty)
  rw [fsz_eq] at hd
  have hcs := Lib.cells_of_tab fsz_t Tryd.underlying3 fsz_c1 fsz_c hd
  intro i hi
  have := World.var?_cell hg hvar i
  rw [this, ← Array.getElem?_toList, hcs]
  rw [List.getElem?_map, List.getElem?_eq_getElem hi]
  simp [List.getD, hi]
end Bw
end Go.Proofs.YtapjiopnjfldhaaDoor
