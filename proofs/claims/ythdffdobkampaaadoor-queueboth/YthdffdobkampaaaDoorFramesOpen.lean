/- Frames that came in as a list: the six cells of each, and its bytes. -/
import Derived.Test.YthdffdobkampaaaDoorFrameOpen
import Derived.Test.YthdffdobkampaaaDoorFrameMath
namespace Go.Proofs.YthdffdobkampaaaDoor
open Go.ChangeShapes Go.WideShapes Go.ChangeAt Go.RowKit
namespace Bw
/-- a frame as it lies in memory -/
structure FrV where
  f : Fr
  a : Option Addr
  len : Nat
  cap : Nat
def FrV.cells (v : FrV) : List Value := [.int .i64 v.f.id, .bool v.f.lo, .bool v.f.fa, .bool v.f.re, .int .i64 v.f.sz, .slice v.a v.len v.cap]
def FrV.val (v : FrV) : Value := frameV v.f.id v.f.lo v.f.fa v.f.re v.f.sz v.a v.len v.cap
set_option maxRecDepth 100000 in
theorem open_frame_cells {H : Type} {enc : TypeId × Value → H} {W : World} {fuel : Nat} {cs : List Value} {x : DataW H × List MemPlace} (hcs : cs.length = 6)
    (hf : DataW.trod enc Tryd.prog W 0 (fun _ => true) true fuel 25 cs = some x) :
    ∃ v : FrV, cs = v.cells ∧ IsBytes W v.a v.len v.cap v.f.dt := by
  obtain ⟨xs, n, _, rfl, _, hlen, hF⟩ := DataW.trod_struct Tryd.underlying25 hf
  obtain ⟨c0, c1, c2, c3, c4, c5, hc⟩ := six_cells hcs
  rw [hc] at hF
  have h6 : xs.length = 6 := hlen
  have g : ∀ i, i < 6 → ∃ y, xs[i]? = some y := fun i hi => ⟨xs[i]'(by omega), List.getElem?_eq_getElem (by omega)⟩
  obtain ⟨y0, e0⟩ := g 0 (by omega)
  obtain ⟨y1, e1⟩ := g 1 (by omega)
  obtain ⟨y2, e2⟩ := g 2 (by omega)
  obtain ⟨y3, e3⟩ := g 3 (by omega)
  obtain ⟨y4, e4⟩ := g 4 (by omega)
  obtain ⟨y5, e5⟩ := g 5 (by omega)
  have f0 := hF 0 _ rfl
  have f1 := hF 1 _ rfl
  have f2 := hF 2 _ rfl
  have f3 := hF 3 _ rfl
  have f4 := hF 4 _ rfl
  have f5 := hF 5 _ rfl
  rw [e0] at f0
  rw [e1] at f1
  rw [e2] at f2
  rw [e3] at f3
  rw [e4] at f4
  rw [e5] at f5
  obtain ⟨id, q0, _, w0⟩ := DataW.trod_int Tryd.underlying3 f0
  obtain ⟨lo, q1, _⟩ := DataW.trod_bool Tryd.underlying4 f1
  obtain ⟨fa, q2, _⟩ := DataW.trod_bool Tryd.underlying4 f2
  obtain ⟨re, q3, _⟩ := DataW.trod_bool Tryd.underlying4 f3
  obtain ⟨sz, q4, _, w4⟩ := DataW.trod_int Tryd.underlying3 f4
  have p0 : ([c0, c1, c2, c3, c4, c5].drop 0).take (Tryd.prog.cellsOf 3) = [.int .i64 id] := q0
  have p1 : ([c0, c1, c2, c3, c4, c5].drop 1).take (Tryd.prog.cellsOf 4) = [.bool lo] := q1
  have p2 : ([c0, c1, c2, c3, c4, c5].drop 2).take (Tryd.prog.cellsOf 4) = [.bool fa] := q2
  have p3 : ([c0, c1, c2, c3, c4, c5].drop 3).take (Tryd.prog.cellsOf 4) = [.bool re] := q3
  have p4 : ([c0, c1, c2, c3, c4, c5].drop 4).take (Tryd.prog.cellsOf 3) = [.int .i64 sz] := q4
  rw [int_c1] at p0 p4
  rw [bool_c1] at p1 p2 p3
  have q0 : c0 = .int .i64 id := by simpa using p0
  have q1 : c1 = .bool lo := by simpa using p1
  have q2 : c2 = .bool fa := by simpa using p2
  have q3 : c3 = .bool re := by simpa using p3
  have q4 : c4 = .int .i64 sz := by simpa using p4
  have hrow : ∃ a len cap zs, c5 = .slice a len cap ∧ IsRow .u8 W a len cap zs := by
    have f5 : DataW.trod enc Tryd.prog W 0 (fun _ => true) true n 23 (([c0, c1, c2, c3, c4, c5].drop 5).take (Tryd.prog.cellsOf 23)) = some y5 := f5
    rw [row_c1] at f5
    have e5 : ([c0, c1, c2, c3, c4, c5].drop 5).take 1 = [c5] := rfl
    rw [e5] at f5
    rcases open_ints Tryd.underlying23 Tryd.underlying5 byte_c1 f5 with ⟨q5, _⟩ | ⟨a, len, cap, zs, q5, _, hl, hm, hz, _, hcell, hw⟩
    · simp only [List.cons.injEq, and_true] at q5
      exact ⟨none, 0, 0, [], q5, .inl ⟨rfl, rfl, rfl, rfl⟩⟩
    · simp only [List.cons.injEq, and_true] at q5
      exact ⟨some a, len, cap, zs, q5, .inr ⟨a, rfl, hl, hm, by simpa using hz, hcell, hw⟩⟩
  obtain ⟨a, len, cap, zs, q5, hr⟩ := hrow
  obtain ⟨l, hl⟩ := isBytes_of_row hr
  refine ⟨⟨⟨id, lo, fa, re, sz, l⟩, a, len, cap⟩, ?_, hl⟩
  rw [hc, q0, q1, q2, q3, q4, q5]; rfl
/-- a list of frames that came in -/
structure IsFrames (w : World) (a : Option Addr) (n cap : Nat) (l : List FrV) : Prop where
  len : l.length = n
  le : n ≤ cap
  max : cap ≤ maxLen
  none : a = none → n = 0
  cell : ∀ x, a = some x → ∀ i (hi : i < l.length), ∀ k (hk : k < 6), w.cell? (x.add (i * 6 + k)) = some ((l[i].cells)[k]'hk)
  bytes : ∀ i (hi : i < l.length), IsBytes w l[i].a l[i].len l[i].cap l[i].f.dt
set_option maxRecDepth 100000 in
theorem open_frames {H : Type} {enc : TypeId × Value → H} {W : World} {fuel : Nat} {a : Option Addr} {n cap : Nat} {x : DataW H × List MemPlace}
    (hf : DataW.trod enc Tryd.prog W 0 (fun _ => true) true fuel 22 [.slice a n cap] = some x) : ∃ l, IsFrames W a n cap l := by
  rcases DataW.trod_slice Tryd.underlying22 hf with ⟨h0, _⟩ | ⟨y, len, cp, elems, rest, m, _, h0, _, _, hl, hm, hlen, hel, _, _⟩
  · simp only [List.cons.injEq, and_true, Value.slice.injEq] at h0
    obtain ⟨rfl, rfl, rfl⟩ := h0
    exact ⟨[], rfl, Nat.le_refl _, Nat.zero_le _, fun _ => rfl, (fun _ h => by cases h), fun i hi => absurd hi (Nat.not_lt_zero _)⟩
  · simp only [List.cons.injEq, and_true, Value.slice.injEq] at h0
    obtain ⟨rfl, rfl, rfl⟩ := h0
    have each : ∀ i, i < n → ∃ v : FrV, (∀ k (hk : k < 6), W.cell? (y.add (i * 6 + k)) = some ((v.cells)[k]'hk)) ∧ IsBytes W v.a v.len v.cap v.f.dt := by
      intro i hi
      have h1 := hel i hi
      rw [List.getElem?_eq_getElem (by omega), Option.bind_eq_some_iff] at h1
      obtain ⟨cs, h2, h3⟩ := h1
      rw [frame_c] at h2
      have h4 := World.cells?_some h2
      obtain ⟨v, rfl, hv⟩ := open_frame_cells (by exact h4.2.1) h3
      refine ⟨v, fun k hk => ?_, hv⟩
      have h5 := h4.2.2 k hk
      have e : (y.add (i * 6)).add k = y.add (i * 6 + k) := by
        first | exact Addr.add_add _ _ _ | (unfold Addr.add; simp; omega)
      rw [e] at h5
      rw [h5]
      exact List.getElem?_eq_getElem (show k < v.cells.length from hk)
    let g : Nat → FrV := fun i => if h : i < n then (each i h).choose else ⟨⟨0, false, false, false, 0, []⟩, none, 0, 0⟩
    have hg : ∀ i (h : i < n), (∀ k (hk : k < 6), W.cell? (y.add (i * 6 + k)) = some (((g i).cells)[k]'hk)) ∧ IsBytes W (g i).a (g i).len (g i).cap (g i).f.dt := by
      intro i h
      have e : g i = (each i h).choose := by show (if h : i < n then _ else _) = _; rw [dif_pos h]
      rw [e]
      exact (each i h).choose_spec
    refine ⟨(List.range n).map g, by simp, hl, hm, (fun h => by cases h), ?_, ?_⟩
    · intro z hz i hi k hk
      cases hz
      simp only [List.length_map, List.length_range] at hi
      simp only [List.getElem_map, List.getElem_range]
      exact (hg i hi).1 k hk
    · intro i hi
      simp only [List.length_map, List.length_range] at hi
      simp only [List.getElem_map, List.getElem_range]
      exact (hg i hi).2
end Bw
end Go.Proofs.YthdffdobkampaaaDoor
