/- Tasks that came in as an argument; how many of them there can be. -/
import Derived.Test.YtnhnemmddgofnaaDoorRows
import Derived.Test.YtnhnemmddgofnaaDoorD1
import Derived.ChangeSlices
import Derived.OpenShut
import Derived.SizedLaws
namespace Go.Proofs.YtnhnemmddgofnaaDoor
open Go.ChangeShapes Go.WideShapes Go.ChangeAt Go.RowKit
namespace Bw
theorem five_cells {l : List Value} (h : l.length = 5) : ∃ c0 c1 c2 c3 c4, l = [c0, c1, c2, c3, c4] := by
  match l, h with
  | [c0, c1, c2, c3, c4], _ => exact ⟨c0, c1, c2, c3, c4, rfl⟩
theorem tk_c5 : Tryd.prog.cellsOf 31 = 5 := by kernel_rfl
theorem tk_i1 : Tryd.prog.cellsOf 3 = 1 := by kernel_rfl
set_option maxRecDepth 100000 in
theorem open_tk_cells {H : Type} {enc : TypeId × Value → H} {W : World} {fuel : Nat} {cs : List Value} {x : DataW H × List MemPlace} (hcs : cs.length = 5)
    (hf : DataW.trod enc Tryd.prog W 0 (fun _ => true) true fuel 31 cs = some x) : ∃ v : Tk, cs = [.int .i64 v.id, .int .i64 v.by_, .int .i64 v.ev, .int .i64 v.la, .int .i64 v.ji] := by
  obtain ⟨xs, n, _, rfl, _, hlen, hF⟩ := DataW.trod_struct Tryd.underlying31 hf
  obtain ⟨c0, c1, c2, c3, c4, hc⟩ := five_cells hcs
  rw [hc] at hF
  have h3 : xs.length = 5 := hlen
  have g : ∀ i, i < 5 → ∃ y, xs[i]? = some y := fun i hi => ⟨xs[i]'(by omega), List.getElem?_eq_getElem (by omega)⟩
  obtain ⟨y0, e0⟩ := g 0 (by omega)
  have f0 := hF 0 _ rfl
  rw [e0] at f0
  obtain ⟨s0, q0, _, _⟩ := DataW.trod_int Tryd.underlying3 f0
  have p0 : ([c0, c1, c2, c3, c4].drop 0).take (Tryd.prog.cellsOf 3) = [.int .i64 s0] := q0
  rw [tk_i1] at p0
  have r0 : c0 = .int .i64 s0 := by simpa using p0
  obtain ⟨y1, e1⟩ := g 1 (by omega)
  have f1 := hF 1 _ rfl
  rw [e1] at f1
  obtain ⟨s1, q1, _, _⟩ := DataW.trod_int Tryd.underlying3 f1
  have p1 : ([c0, c1, c2, c3, c4].drop 1).take (Tryd.prog.cellsOf 3) = [.int .i64 s1] := q1
  rw [tk_i1] at p1
  have r1 : c1 = .int .i64 s1 := by simpa using p1
  obtain ⟨y2, e2⟩ := g 2 (by omega)
  have f2 := hF 2 _ rfl
  rw [e2] at f2
  obtain ⟨s2, q2, _, _⟩ := DataW.trod_int Tryd.underlying3 f2
  have p2 : ([c0, c1, c2, c3, c4].drop 2).take (Tryd.prog.cellsOf 3) = [.int .i64 s2] := q2
  rw [tk_i1] at p2
  have r2 : c2 = .int .i64 s2 := by simpa using p2
  obtain ⟨y3, e3⟩ := g 3 (by omega)
  have f3 := hF 3 _ rfl
  rw [e3] at f3
  obtain ⟨s3, q3, _, _⟩ := DataW.trod_int Tryd.underlying3 f3
  have p3 : ([c0, c1, c2, c3, c4].drop 3).take (Tryd.prog.cellsOf 3) = [.int .i64 s3] := q3
  rw [tk_i1] at p3
  have r3 : c3 = .int .i64 s3 := by simpa using p3
  obtain ⟨y4, e4⟩ := g 4 (by omega)
  have f4 := hF 4 _ rfl
  rw [e4] at f4
  obtain ⟨s4, q4, _, _⟩ := DataW.trod_int Tryd.underlying3 f4
  have p4 : ([c0, c1, c2, c3, c4].drop 4).take (Tryd.prog.cellsOf 3) = [.int .i64 s4] := q4
  rw [tk_i1] at p4
  have r4 : c4 = .int .i64 s4 := by simpa using p4
  exact ⟨⟨s0, s1, s2, s3, s4⟩, by rw [hc, r0, r1, r2, r3, r4]⟩
set_option maxRecDepth 100000 in
theorem open_tk {H : Type} {enc : TypeId × Value → H} {W : World} {base : Nat} {v : Value} {fuel : Nat} {x : DataW H × List MemPlace} (hv : Value.okWide Tryd.prog W .any base 31 v)
    (hf : DataW.trod enc Tryd.prog W 0 (fun _ => true) true fuel 31 v.cells.toList = some x) : ∃ r : Tk, v = r.val := by
  obtain ⟨cs, rfl, hcs⟩ := okWide_struct Tryd.underlying31 hv
  rw [tk_c5] at hcs
  obtain ⟨r, hr⟩ := open_tk_cells (by show cs.toList.length = 5; simpa using hcs) hf
  refine ⟨r, ?_⟩
  unfold Tk.val
  congr 1
  have hr2 : cs.toList = [.int .i64 r.id, .int .i64 r.by_, .int .i64 r.ev, .int .i64 r.la, .int .i64 r.ji] := hr
  rw [← Array.toArray_toList (xs := cs), hr2]
set_option maxRecDepth 100000 in
theorem open_tks {H : Type} {enc : TypeId × Value → H} {W : World} {fuel : Nat} {a : Option Addr} {n cap : Nat} {x : DataW H × List MemPlace}
    (hf : DataW.trod enc Tryd.prog W 0 (fun _ => true) true fuel 22 [.slice a n cap] = some x) : ∃ l, IsTks W a n cap l := by
  rcases DataW.trod_slice Tryd.underlying22 hf with ⟨h0, _⟩ | ⟨y, len, cp, elems, rest, m, _, h0, _, _, hl, hm, hlen, hel, _, _⟩
  · simp only [List.cons.injEq, and_true, Value.slice.injEq] at h0
    obtain ⟨rfl, rfl, rfl⟩ := h0
    exact ⟨[], rfl, Nat.le_refl _, Nat.zero_le _, fun _ => rfl, (fun _ h => by cases h)⟩
  · simp only [List.cons.injEq, and_true, Value.slice.injEq] at h0
    obtain ⟨rfl, rfl, rfl⟩ := h0
    have each : ∀ i, i < n → ∃ v : Tk, TkOn W (y.add (i * 5)) v := by
      intro i hi
      have h1 := hel i hi
      rw [List.getElem?_eq_getElem (by omega), Option.bind_eq_some_iff] at h1
      obtain ⟨cs, h2, h3⟩ := h1
      rw [tk_c5] at h2
      have h4 := World.cells?_some h2
      obtain ⟨v, rfl⟩ := open_tk_cells (by exact h4.2.1) h3
      have h5 := fun k hk => h4.2.2 k hk
      have h50 := h5 0 (by omega)
      have h51 := h5 1 (by omega)
      have h52 := h5 2 (by omega)
      have h53 := h5 3 (by omega)
      have h54 := h5 4 (by omega)
      exact ⟨v, h50, h51, h52, h53, h54⟩
    let g : Nat → Tk := fun i => if h : i < n then (each i h).choose else noT
    have hg : ∀ i (h : i < n), TkOn W (y.add (i * 5)) (g i) := by
      intro i h
      have e : g i = (each i h).choose := by show (if h : i < n then _ else _) = _; rw [dif_pos h]
      rw [e]
      exact (each i h).choose_spec
    refine ⟨(List.range n).map g, by simp, hl, hm, (fun h => by cases h), ?_⟩
    intro z hz i hi
    cases hz
    have e : ((List.range n).map g).getD i noT = g i := by simp [List.getD, hi]
    rw [e]
    exact hg i hi
theorem bytes_tk : Tryd.prog.bytesOf 31 = 40 := by kernel_rfl
theorem tks_len {H : Type} {enc : TypeId × Value → H} {W : World} {a : Option Addr} {n cap : Nat} {fuel : Nat} {x : DataW H × List MemPlace}
    (hf : DataW.trod enc Tryd.prog W 0 (fun _ => true) true fuel 22 (Value.slice a n cap).cells.toList = some x)
    (hw : (DataW.weights Tryd.prog 22 x.1).all (· ≤ reachBytes) = true) : n * 40 ≤ 140737488351232 := by
  have hcv : (Value.slice a n cap).cells.toList = [.slice a n cap] := rfl
  rw [hcv] at hf
  rcases DataW.trod_slice Tryd.underlying22 hf with ⟨h0, _⟩ | ⟨y, len, cp, elems, rest, m, _, h0, hx, _, hl, hm, hlen, _, _, _⟩
  · simp only [List.cons.injEq, and_true, Value.slice.injEq] at h0
    omega
  · simp only [List.cons.injEq, and_true, Value.slice.injEq] at h0
    obtain ⟨_, rfl, rfl⟩ := h0
    subst hx
    unfold DataW.weights at hw
    simp only [Tryd.underlying22, List.all_cons, Bool.and_eq_true, bytes_tk, List.length_map] at hw
    have h1 := of_decide_eq_true hw.1
    unfold reachBytes at h1
    omega
end Bw
end Go.Proofs.YtnhnemmddgofnaaDoor
