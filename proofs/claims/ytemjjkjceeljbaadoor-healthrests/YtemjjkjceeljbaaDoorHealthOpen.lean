/- Counters that came in as an argument; numbers that came in; the table of what happenings add, off the row's own condition. -/
import Derived.Test.YtemjjkjceeljbaaDoorRows
import Derived.Test.YtemjjkjceeljbaaDoorIsRow0
import Derived.Test.YtemjjkjceeljbaaDoorHealthIs
import Derived.ChangeSlices
import Derived.OpenShut
import Derived.Lib.LaidU8
namespace Go.Proofs.YtemjjkjceeljbaaDoor
open Go.ChangeShapes Go.WideShapes Go.ChangeAt Go.RowKit
namespace Bw
theorem three_cells {l : List Value} (h : l.length = 3) : ∃ c0 c1 c2, l = [c0, c1, c2] := by
  match l, h with
  | [c0, c1, c2], _ => exact ⟨c0, c1, c2, rfl⟩
theorem health_c : Tryd.prog.cellsOf 23 = 3 := by kernel_rfl
theorem int_c1 : Tryd.prog.cellsOf 3 = 1 := by kernel_rfl
set_option maxRecDepth 100000 in
theorem open_health {H : Type} {enc : TypeId × Value → H} {W : World} {base : Nat} {v : Value} {fuel : Nat} {x : DataW H × List MemPlace} (hv : Value.okWide Tryd.prog W .any base 23 v)
    (hf : DataW.trod enc Tryd.prog W 0 (fun _ => true) true fuel 23 v.cells.toList = some x) :
    ∃ h : Hl, v = hV h := by
  obtain ⟨cs, rfl, hcs⟩ := okWide_struct Tryd.underlying23 hv
  rw [health_c] at hcs
  obtain ⟨xs, n, _, rfl, _, hlen, hF⟩ := DataW.trod_struct Tryd.underlying23 hf
  obtain ⟨c0, c1, c2, hc⟩ := three_cells (l := cs.toList) (by simpa using hcs)
  have hcv : (Value.agg cs).cells.toList = [c0, c1, c2] := hc
  rw [hcv] at hF
  have h3 : xs.length = 3 := hlen
  have g : ∀ i, i < 3 → ∃ y, xs[i]? = some y := fun i hi => ⟨xs[i]'(by omega), List.getElem?_eq_getElem (by omega)⟩
  obtain ⟨y0, e0⟩ := g 0 (by omega)
  obtain ⟨y1, e1⟩ := g 1 (by omega)
  obtain ⟨y2, e2⟩ := g 2 (by omega)
  have f0 := hF 0 _ rfl
  have f1 := hF 1 _ rfl
  have f2 := hF 2 _ rfl
  rw [e0] at f0
  rw [e1] at f1
  rw [e2] at f2
  obtain ⟨s, q0, _, _⟩ := DataW.trod_int Tryd.underlying3 f0
  obtain ⟨gt, q1, _, _⟩ := DataW.trod_int Tryd.underlying3 f1
  obtain ⟨r, q2, _, _⟩ := DataW.trod_int Tryd.underlying3 f2
  have p0 : ([c0, c1, c2].drop 0).take (Tryd.prog.cellsOf 3) = [.int .i64 s] := q0
  have p1 : ([c0, c1, c2].drop 1).take (Tryd.prog.cellsOf 3) = [.int .i64 gt] := q1
  have p2 : ([c0, c1, c2].drop 2).take (Tryd.prog.cellsOf 3) = [.int .i64 r] := q2
  rw [int_c1] at p0 p1 p2
  have q0 : c0 = .int .i64 s := by simpa using p0
  have q1 : c1 = .int .i64 gt := by simpa using p1
  have q2 : c2 = .int .i64 r := by simpa using p2
  refine ⟨⟨s, gt, r⟩, ?_⟩
  unfold hV
  rw [← q0, ← q1, ← q2]
  congr 1
  apply Array.toList_inj.1
  exact hc
theorem numsH_of {w : World} {a : Option Addr} {n c : Nat} {zs : List Int} (h : IsRow .i64 w a n c zs) (hC : ChgAt w) : NumsH w a n (zs.take n) := by
  rcases h with ⟨rfl, rfl, rfl, rfl⟩ | ⟨x, rfl, h1, h2, h3, h4, h5⟩
  · exact ⟨rfl, fun _ => rfl, (fun x hx => by cases hx), hC⟩
  · refine ⟨by rw [List.length_take]; omega, (fun h => by cases h), fun y hy i hi => ?_, hC⟩
    cases hy
    rw [h4 i (by omega)]
    simp [List.getD, hi]
def chgZ (k : Nat) : List Int := [chgL.getD (k * 2) 0, chgL.getD (k * 2 + 1) 0]
def chgD : List (DataW Unit) := [0, 1, 2, 3, 4, 5, 6].map fun k => .agg ((chgZ k).map fun z => .lit (.int .i64 z))
theorem seven_at (k : Nat) (hk : k < 7) : [0, 1, 2, 3, 4, 5, 6][k]? = some k := by
  match k, hk with
  | 0, _ => rfl
  | 1, _ => rfl
  | 2, _ => rfl
  | 3, _ => rfl
  | 4, _ => rfl
  | 5, _ => rfl
  | 6, _ => rfl
theorem chgD_at (k : Nat) (hk : k < 7) : chgD[k]? = some (.agg ((chgZ k).map fun z => .lit (.int .i64 z))) := by
  rw [chgD, List.getElem?_map, seven_at k hk]; rfl
theorem chg_eq : Rows.laid_omnibus_health_changes (H := Unit) = .agg chgD := by kernel_rfl
theorem chg_t : Tryd.prog.underlying 44 = some (.array 7 43) := by kernel_rfl
theorem chg_c : Tryd.prog.cellsOf 43 = 2 := by kernel_rfl
theorem chg_g : Tryd.prog.globalNamed "omnibus/health.changes" = some 0 := by kernel_rfl
theorem chg_y : (Tryd.prog.globals[0]?).map (·.type) = some 44 := by kernel_rfl
theorem chg_of {W : World} {laid : List (String × DataW Unit)} (hL : laidMet Tryd.prog laid W)
    (h1 : ("omnibus/health.changes", Rows.laid_omnibus_health_changes) ∈ laid) : ChgAt W := by
  obtain ⟨g, t, cs, fuel, p, hg, hty, hvar, hd⟩ := Lib.laidMet.reads hL h1
  obtain rfl := Option.some.inj (chg_g.symm.trans hg)
  obtain rfl := Option.some.inj (chg_y.symm.trans hty)
  rw [chg_eq] at hd
  have hv := fun j => World.var?_cell hg hvar j
  have hc : ∀ k, k < 7 → ∀ j, j < 2 → cs[k * 2 + j]? = ((chgZ k).map fun z => Value.int .i64 z)[j]? := by
    intro k hk
    obtain ⟨fuel', d, q, hdk, htr⟩ := Lib.array_elem chg_t hd k (by omega)
    have hdd : d = .agg ((chgZ k).map fun z => .lit (.int .i64 z)) := by
      have := chgD_at k hk
      rw [hdk] at this
      exact Option.some.inj this
    subst hdd
    have hz := Lib.ints_of_struct Tryd.underlying43 (by
      intro i f h
      match i, h with
      | 0, h => cases h; exact ⟨Tryd.underlying3, rfl, int_c1⟩
      | 1, h => cases h; exact ⟨Tryd.underlying3, rfl, int_c1⟩
      | i + 2, h => simp at h) chg_c htr
    rw [chg_c] at hz
    intro j hj
    rw [← hz, List.getElem?_take_of_lt hj, List.getElem?_drop, Array.getElem?_toList]
  intro j hj
  obtain ⟨k, b, hk, hb, rfl⟩ : ∃ k b, k < 7 ∧ b < 2 ∧ j = k * 2 + b := ⟨j / 2, j % 2, by omega, by omega, by omega⟩
  rw [hv, hc k hk b hb]
  match b, hb with
  | 0, _ => rfl
  | 1, _ => rfl
end Bw
end Go.Proofs.YtemjjkjceeljbaaDoor
