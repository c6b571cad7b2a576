/- Routes and a gateway that came in as an argument; how many routes there can be. -/
import Derived.Test.YtapjiopnjfldhaaDoorRows
import Derived.Test.YtapjiopnjfldhaaDoorRtRow
import Derived.Test.YtapjiopnjfldhaaDoorA15
import Derived.ChangeSlices
import Derived.OpenShut
import Derived.SizedLaws
namespace Go.Proofs.YtapjiopnjfldhaaDoor
open Go.ChangeShapes Go.WideShapes Go.ChangeAt Go.RowKit
namespace Bw
theorem seven_cells {l : List Value} (h : l.length = 7) : ∃ c0 c1 c2 c3 c4 c5 c6, l = [c0, c1, c2, c3, c4, c5, c6] := by
  match l, h with
  | [c0, c1, c2, c3, c4, c5, c6], _ => exact ⟨c0, c1, c2, c3, c4, c5, c6, rfl⟩
theorem two_cells {l : List Value} (h : l.length = 2) : ∃ c0 c1, l = [c0, c1] := by
  match l, h with
  | [c0, c1], _ => exact ⟨c0, c1, rfl⟩
theorem rt_c7 : Tryd.prog.cellsOf 45 = 7 := by kernel_rfl
theorem ga_c2 : Tryd.prog.cellsOf 25 = 2 := by kernel_rfl
theorem rs_c1 : Tryd.prog.cellsOf 22 = 1 := by kernel_rfl
theorem is_c1 : Tryd.prog.cellsOf 23 = 1 := by kernel_rfl
def rtL (v : Rt) : List Value := [.int .i64 v.fr, .int .i64 v.tb, .int .i64 v.f.w, .int .i64 v.f.m, .bool v.f.lo, .int .i64 v.add, .int .i64 v.ev]
set_option maxRecDepth 100000 in
theorem open_rt_cells {H : Type} {enc : TypeId × Value → H} {W : World} {fuel : Nat} {cs : List Value} {x : DataW H × List MemPlace} (hcs : cs.length = 7)
    (hf : DataW.trod enc Tryd.prog W 0 (fun _ => true) true fuel 45 cs = some x) : ∃ v : Rt, cs = rtL v := by
  obtain ⟨xs, n, _, rfl, _, hlen, hF⟩ := DataW.trod_struct Tryd.underlying45 hf
  obtain ⟨c0, c1, c2, c3, c4, c5, c6, hc⟩ := seven_cells hcs
  rw [hc] at hF
  have h3 : xs.length = 5 := hlen
  have g : ∀ i, i < 5 → ∃ y, xs[i]? = some y := fun i hi => ⟨xs[i]'(by omega), List.getElem?_eq_getElem (by omega)⟩
  obtain ⟨y0, e0⟩ := g 0 (by omega)
  have f0 := hF 0 _ rfl
  rw [e0] at f0
  obtain ⟨s0, q0, _, _⟩ := DataW.trod_int Tryd.underlying3 f0
  have p0 : ([c0, c1, c2, c3, c4, c5, c6].drop 0).take (Tryd.prog.cellsOf 3) = [.int .i64 s0] := q0
  rw [lst_c1] at p0
  have r0 : c0 = .int .i64 s0 := by simpa using p0
  obtain ⟨y1, e1⟩ := g 1 (by omega)
  have f1 := hF 1 _ rfl
  rw [e1] at f1
  obtain ⟨s1, q1, _, _⟩ := DataW.trod_int Tryd.underlying3 f1
  have p1 : ([c0, c1, c2, c3, c4, c5, c6].drop 1).take (Tryd.prog.cellsOf 3) = [.int .i64 s1] := q1
  rw [lst_c1] at p1
  have r1 : c1 = .int .i64 s1 := by simpa using p1
  obtain ⟨y3, e3⟩ := g 3 (by omega)
  have f3 := hF 3 _ rfl
  rw [e3] at f3
  obtain ⟨s3, q3, _, _⟩ := DataW.trod_int Tryd.underlying3 f3
  have p3 : ([c0, c1, c2, c3, c4, c5, c6].drop 5).take (Tryd.prog.cellsOf 3) = [.int .i64 s3] := q3
  rw [lst_c1] at p3
  have r3 : c5 = .int .i64 s3 := by simpa using p3
  obtain ⟨y4, e4⟩ := g 4 (by omega)
  have f4 := hF 4 _ rfl
  rw [e4] at f4
  obtain ⟨s4, q4, _, _⟩ := DataW.trod_int Tryd.underlying3 f4
  have p4 : ([c0, c1, c2, c3, c4, c5, c6].drop 6).take (Tryd.prog.cellsOf 3) = [.int .i64 s4] := q4
  rw [lst_c1] at p4
  have r4 : c6 = .int .i64 s4 := by simpa using p4
  obtain ⟨y2, e2⟩ := g 2 (by omega)
  have f2 := hF 2 _ rfl
  rw [e2] at f2
  have f2' : DataW.trod enc Tryd.prog W 0 (fun _ => true) true n 43 (([c0, c1, c2, c3, c4, c5, c6].drop 2).take (Tryd.prog.cellsOf 43)) = some y2 := f2
  rw [lst_f3] at f2'
  have e2' : ([c0, c1, c2, c3, c4, c5, c6].drop 2).take 3 = [c2, c3, c4] := rfl
  rw [e2'] at f2'
  obtain ⟨v, hv⟩ := open_fil_cells rfl f2'
  have hv' : [c2, c3, c4] = [.int .i64 v.w, .int .i64 v.m, .bool v.lo] := hv
  simp only [List.cons.injEq, and_true] at hv'
  exact ⟨⟨s0, s1, v, s3, s4⟩, by rw [hc, r0, r1, hv'.1, hv'.2.1, hv'.2.2, r3, r4]; rfl⟩
set_option maxRecDepth 100000 in
theorem open_rt {H : Type} {enc : TypeId × Value → H} {W : World} {base : Nat} {v : Value} {fuel : Nat} {x : DataW H × List MemPlace} (hv : Value.okWide Tryd.prog W .any base 45 v)
    (hf : DataW.trod enc Tryd.prog W 0 (fun _ => true) true fuel 45 v.cells.toList = some x) : ∃ r : Rt, v = r.val := by
  obtain ⟨cs, rfl, hcs⟩ := okWide_struct Tryd.underlying45 hv
  rw [rt_c7] at hcs
  obtain ⟨r, hr⟩ := open_rt_cells (by show cs.toList.length = 7; simpa using hcs) hf
  refine ⟨r, ?_⟩
  unfold Rt.val
  congr 1
  have hr2 : cs.toList = rtL r := hr
  rw [← Array.toArray_toList (xs := cs), hr2]
  rfl
set_option maxRecDepth 100000 in
theorem open_rts {H : Type} {enc : TypeId × Value → H} {W : World} {fuel : Nat} {a : Option Addr} {n cap : Nat} {x : DataW H × List MemPlace}
    (hf : DataW.trod enc Tryd.prog W 0 (fun _ => true) true fuel 22 [.slice a n cap] = some x) : ∃ l, IsRts W a n cap l := by
  rcases DataW.trod_slice Tryd.underlying22 hf with ⟨h0, _⟩ | ⟨y, len, cp, elems, rest, m, _, h0, _, _, hl, hm, hlen, hel, _, _⟩
  · simp only [List.cons.injEq, and_true, Value.slice.injEq] at h0
    obtain ⟨rfl, rfl, rfl⟩ := h0
    exact ⟨[], rfl, Nat.le_refl _, Nat.zero_le _, fun _ => rfl, (fun _ h => by cases h)⟩
  · simp only [List.cons.injEq, and_true, Value.slice.injEq] at h0
    obtain ⟨rfl, rfl, rfl⟩ := h0
    have each : ∀ i, i < n → ∃ v : Rt, RtOn W (y.add (i * 7)) v := by
      intro i hi
      have h1 := hel i hi
      rw [List.getElem?_eq_getElem (by omega), Option.bind_eq_some_iff] at h1
      obtain ⟨cs, h2, h3⟩ := h1
      rw [rt_c7] at h2
      have h4 := World.cells?_some h2
      obtain ⟨v, rfl⟩ := open_rt_cells (by exact h4.2.1) h3
      have h5 := fun k hk => h4.2.2 k hk
      have h50 := h5 0 (by omega)
      have h51 := h5 1 (by omega)
      have h52 := h5 2 (by omega)
      have h53 := h5 3 (by omega)
      have h54 := h5 4 (by omega)
      have h55 := h5 5 (by omega)
      have h56 := h5 6 (by omega)
      exact ⟨v, h50, h51, h52, h53, h54, h55, h56⟩
    let g : Nat → Rt := fun i => if h : i < n then (each i h).choose else noR
    have hg : ∀ i (h : i < n), RtOn W (y.add (i * 7)) (g i) := by
      intro i h
      have e : g i = (each i h).choose := by show (if h : i < n then _ else _) = _; rw [dif_pos h]
      rw [e]
      exact (each i h).choose_spec
    refine ⟨(List.range n).map g, by simp, hl, hm, (fun h => by cases h), ?_⟩
    intro z hz i hi
    cases hz
    have e : ((List.range n).map g).getD i noR = g i := by simp [List.getD, hi]
    rw [e]
    exact hg i hi
theorem bytes_rt : Tryd.prog.bytesOf 45 = 56 := by kernel_rfl
theorem rts_len {H : Type} {enc : TypeId × Value → H} {W : World} {a : Option Addr} {n cap : Nat} {fuel : Nat} {x : DataW H × List MemPlace}
    (hf : DataW.trod enc Tryd.prog W 0 (fun _ => true) true fuel 22 [.slice a n cap] = some x)
    (hw : (DataW.weights Tryd.prog 22 x.1).all (· ≤ reachBytes) = true) : n ≤ 2513169434843 := by
  rcases DataW.trod_slice Tryd.underlying22 hf with ⟨h0, _⟩ | ⟨y, len, cp, elems, rest, m, _, h0, hx, _, hl, hm, hlen, _, _, _⟩
  · simp only [List.cons.injEq, and_true, Value.slice.injEq] at h0
    omega
  · simp only [List.cons.injEq, and_true, Value.slice.injEq] at h0
    obtain ⟨_, rfl, rfl⟩ := h0
    subst hx
    unfold DataW.weights at hw
    simp only [Tryd.underlying22, List.all_cons, Bool.and_eq_true, bytes_rt, List.length_map] at hw
    have h1 := of_decide_eq_true hw.1
    unfold reachBytes at h1
    omega
theorem nums_row {W : World} {a : Option Addr} {n cap : Nat} {zs : List Int} (h : IsRow .i64 W a n cap zs) : ∃ l, IsNums W a n cap l := by
  rcases h with ⟨rfl, rfl, rfl, rfl⟩ | ⟨x, rfl, hl, hm, hz, hc, -⟩
  · exact ⟨[], rfl, Nat.le_refl _, Nat.zero_le _, fun _ => rfl, (fun _ h => by cases h)⟩
  · refine ⟨zs.take n, by rw [List.length_take]; omega, hl, hm, (fun h => by cases h), ?_⟩
    intro z hzz i hi
    cases hzz
    have hi2 : i < zs.length := by omega
    have e : (zs.take n).getD i 0 = zs[i] := by simp [List.getD, hi, hi2]
    rw [e]
    have h1 := hc i hi2
    first
    | exact h1
    | (rw [h1]; simp [List.getD, hi2])
set_option maxRecDepth 100000 in
theorem open_nums {H : Type} {enc : TypeId × Value → H} {W : World} {fuel : Nat} {a : Option Addr} {n cap : Nat} {x : DataW H × List MemPlace}
    (hf : DataW.trod enc Tryd.prog W 0 (fun _ => true) true fuel 23 [.slice a n cap] = some x) : ∃ l, IsNums W a n cap l := by
  rcases open_ints Tryd.underlying23 Tryd.underlying3 (by kernel_rfl) hf with ⟨hcs, _⟩ | ⟨x, l, c, zs, hcs, _, hl, hm, hz, _, hcell, hwz⟩
  · simp at hcs
    obtain ⟨rfl, rfl, rfl⟩ := hcs
    exact ⟨[], rfl, Nat.le_refl _, Nat.zero_le _, fun _ => rfl, (fun _ h => by cases h)⟩
  · simp at hcs
    obtain ⟨rfl, rfl, rfl⟩ := hcs
    exact nums_row (.inr ⟨_, rfl, hl, hm, by simpa using hz, hcell, hwz⟩)
theorem slice_is {H : Type} {enc : TypeId × Value → H} {W : World} {fuel : Nat} {T E : TypeId} (hT : Tryd.prog.underlying T = some (.slice E)) {c : Value} {x : DataW H × List MemPlace} (hf : DataW.trod enc Tryd.prog W 0 (fun _ => true) true fuel T [c] = some x) : ∃ a n cap, c = .slice a n cap := by
  rcases DataW.trod_slice hT hf with ⟨h0, _⟩ | ⟨y, len', cp, elems, rest, m, _, h0, _⟩
  · exact ⟨none, 0, 0, by simpa using h0⟩
  · exact ⟨some y, len', cp, by simpa using h0⟩
set_option maxRecDepth 100000 in
/-- a gateway that came in -/
theorem open_gate {H : Type} {enc : TypeId × Value → H} {W : World} {base : Nat} {v : Value} {fuel : Nat} {x : DataW H × List MemPlace} (hv : Value.okWide Tryd.prog W .any base 25 v)
    (hf : DataW.trod enc Tryd.prog W 0 (fun _ => true) true fuel 25 v.cells.toList = some x) (hw : (DataW.weights Tryd.prog 25 x.1).all (· ≤ reachBytes) = true) :
    ∃ a n c b m d rs ts, v = gaV a n c b m d ∧ IsRts W a n c rs ∧ IsNums W b m d ts ∧ n ≤ 2513169434843 := by
  obtain ⟨cs, rfl, hcs⟩ := okWide_struct Tryd.underlying25 hv
  rw [ga_c2] at hcs
  have hcv : (Value.agg cs).cells.toList = cs.toList := rfl
  rw [hcv] at hf
  obtain ⟨xs, n, _, rfl, _, hlen, hF⟩ := DataW.trod_struct Tryd.underlying25 hf
  obtain ⟨c0, c1, hc⟩ := two_cells (l := cs.toList) (by simpa using hcs)
  rw [hc] at hF
  have h2 : xs.length = 2 := hlen
  obtain ⟨y0, y1, rfl⟩ : ∃ y0 y1, xs = [y0, y1] := by
    match xs, h2 with
    | [y0, y1], _ => exact ⟨y0, y1, rfl⟩
  have f0 : DataW.trod enc Tryd.prog W 0 (fun _ => true) true n 22 (([c0, c1].drop 0).take (Tryd.prog.cellsOf 22)) = some y0 := hF 0 _ rfl
  have f1 : DataW.trod enc Tryd.prog W 0 (fun _ => true) true n 23 (([c0, c1].drop 1).take (Tryd.prog.cellsOf 23)) = some y1 := hF 1 _ rfl
  rw [rs_c1] at f0
  rw [is_c1] at f1
  have g0 : ([c0, c1].drop 0).take 1 = [c0] := rfl
  have g1 : ([c0, c1].drop 1).take 1 = [c1] := rfl
  rw [g0] at f0
  rw [g1] at f1
  obtain ⟨a, k, c, rfl⟩ := slice_is Tryd.underlying22 f0
  obtain ⟨b, m, d, rfl⟩ := slice_is Tryd.underlying23 f1
  obtain ⟨rs, hR⟩ := open_rts f0
  obtain ⟨ts, hT⟩ := open_nums f1
  have hw0 : (DataW.weights Tryd.prog 22 y0.1).all (· ≤ reachBytes) = true := by
    unfold DataW.weights at hw
    simp only [Tryd.underlying25] at hw
    have hw' : (DataW.weightsEach Tryd.prog [22, 23] [y0.1, y1.1]).all (· ≤ reachBytes) = true := hw
    simp only [DataW.weightsEach, List.all_append, Bool.and_eq_true] at hw'
    exact hw'.1
  refine ⟨a, k, c, b, m, d, rs, ts, ?_, hR, hT, rts_len f0 hw0⟩
  unfold gaV
  congr 1
  rw [← Array.toArray_toList (xs := cs), hc]
end Bw
end Go.Proofs.YtapjiopnjfldhaaDoor
