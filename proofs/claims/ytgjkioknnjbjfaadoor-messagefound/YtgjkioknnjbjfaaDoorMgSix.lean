/- A variable that holds a frame: its six cells, and how they are stored. -/
import Derived.Test.YtgjkioknnjbjfaaDoorMgFillC
namespace Go.Proofs.YtgjkioknnjbjfaaDoor
open Go.ChangeShapes Go.WideShapes Go.ChangeAt Go.RowKit
namespace Bw
open Sm
def Six (w : World) (g : Nat) (c0 c1 c2 c3 c4 c5 : Value) : Prop := w.heap[g]? = some (.cells #[c0, c1, c2, c3, c4, c5] 25 (0, 0))
theorem Six.lt {w : World} {g : Nat} {c0 c1 c2 c3 c4 c5 : Value} (h : Six w g c0 c1 c2 c3 c4 c5) : g < w.heap.size := (Array.getElem?_eq_some_iff.1 h).1
theorem Six.kept {w w' : World} {g : Nat} {c0 c1 c2 c3 c4 c5 : Value} (h : Six w g c0 c1 c2 c3 c4 c5) (hb : Below w.heap.size w w') : Six w' g c0 c1 c2 c3 c4 c5 := by unfold Six; rw [hb.block g h.lt]; exact h
theorem Six.keptG {bm : Nat} {w w' : World} {g : Nat} {c0 c1 c2 c3 c4 c5 : Value} (h : Six w g c0 c1 c2 c3 c4 c5) (hb : GM bm w w') : Six w' g c0 c1 c2 c3 c4 c5 := by
  unfold Six
  rw [hb.grown.block g h.lt (fun e => by
    obtain ⟨es, cl, hm⟩ := hb.map
    have e1 : g = bm := by simpa using e
    subst e1
    unfold Six at h
    rw [h] at hm
    cases hm)]
  exact h
theorem Six.cells {w : World} {g : Nat} {c0 c1 c2 c3 c4 c5 : Value} (h : Six w g c0 c1 c2 c3 c4 c5) : (w.cell? ⟨g, 0, none⟩ = some c0 ∧ w.cell? ⟨g, 1, none⟩ = some c1 ∧ w.cell? ⟨g, 2, none⟩ = some c2 ∧ w.cell? ⟨g, 3, none⟩ = some c3 ∧ w.cell? ⟨g, 4, none⟩ = some c4 ∧ w.cell? ⟨g, 5, none⟩ = some c5) ∧ (w.frozen? ⟨g, 0, none⟩ = false ∧ w.frozen? ⟨g, 1, none⟩ = false ∧ w.frozen? ⟨g, 2, none⟩ = false ∧ w.frozen? ⟨g, 3, none⟩ = false ∧ w.frozen? ⟨g, 4, none⟩ = false ∧ w.frozen? ⟨g, 5, none⟩ = false) :=
  ⟨⟨cell_of_row _ _ 0 _ _ _ h, cell_of_row _ _ 1 _ _ _ h, cell_of_row _ _ 2 _ _ _ h, cell_of_row _ _ 3 _ _ _ h, cell_of_row _ _ 4 _ _ _ h, cell_of_row _ _ 5 _ _ _ h⟩, ⟨frozen_of_row _ _ 0 _ _ h, frozen_of_row _ _ 1 _ _ h, frozen_of_row _ _ 2 _ _ h, frozen_of_row _ _ 3 _ _ h, frozen_of_row _ _ 4 _ _ h, frozen_of_row _ _ 5 _ _ h⟩⟩
theorem Six.store {w : World} {g : Nat} {c0 c1 c2 c3 c4 c5 : Value} (h : Six w g c0 c1 c2 c3 c4 c5) (d0 d1 d2 d3 d4 d5 : Value) :
    ((w.setCell ⟨g, 0, none⟩ d0).cell? ⟨g, 1, none⟩ = some c1 ∧ (w.setCell ⟨g, 0, none⟩ d0).frozen? ⟨g, 1, none⟩ = false) ∧ (((w.setCell ⟨g, 0, none⟩ d0).setCell ⟨g, 1, none⟩ d1).cell? ⟨g, 2, none⟩ = some c2 ∧ ((w.setCell ⟨g, 0, none⟩ d0).setCell ⟨g, 1, none⟩ d1).frozen? ⟨g, 2, none⟩ = false) ∧ ((((w.setCell ⟨g, 0, none⟩ d0).setCell ⟨g, 1, none⟩ d1).setCell ⟨g, 2, none⟩ d2).cell? ⟨g, 3, none⟩ = some c3 ∧ (((w.setCell ⟨g, 0, none⟩ d0).setCell ⟨g, 1, none⟩ d1).setCell ⟨g, 2, none⟩ d2).frozen? ⟨g, 3, none⟩ = false) ∧ (((((w.setCell ⟨g, 0, none⟩ d0).setCell ⟨g, 1, none⟩ d1).setCell ⟨g, 2, none⟩ d2).setCell ⟨g, 3, none⟩ d3).cell? ⟨g, 4, none⟩ = some c4 ∧ ((((w.setCell ⟨g, 0, none⟩ d0).setCell ⟨g, 1, none⟩ d1).setCell ⟨g, 2, none⟩ d2).setCell ⟨g, 3, none⟩ d3).frozen? ⟨g, 4, none⟩ = false) ∧ ((((((w.setCell ⟨g, 0, none⟩ d0).setCell ⟨g, 1, none⟩ d1).setCell ⟨g, 2, none⟩ d2).setCell ⟨g, 3, none⟩ d3).setCell ⟨g, 4, none⟩ d4).cell? ⟨g, 5, none⟩ = some c5 ∧ (((((w.setCell ⟨g, 0, none⟩ d0).setCell ⟨g, 1, none⟩ d1).setCell ⟨g, 2, none⟩ d2).setCell ⟨g, 3, none⟩ d3).setCell ⟨g, 4, none⟩ d4).frozen? ⟨g, 5, none⟩ = false) ∧ Six ((((((w.setCell ⟨g, 0, none⟩ d0).setCell ⟨g, 1, none⟩ d1).setCell ⟨g, 2, none⟩ d2).setCell ⟨g, 3, none⟩ d3).setCell ⟨g, 4, none⟩ d4).setCell ⟨g, 5, none⟩ d5) g d0 d1 d2 d3 d4 d5 := by
  have e0 : w.heap[g]? = some (.cells #[c0, c1, c2, c3, c4, c5] 25 (0, 0)) := h
  have e1 := heap_setCell_same _ g 0 _ _ d0 e0
  have e2 := heap_setCell_same _ g 1 _ _ d1 e1
  have e3 := heap_setCell_same _ g 2 _ _ d2 e2
  have e4 := heap_setCell_same _ g 3 _ _ d3 e3
  have e5 := heap_setCell_same _ g 4 _ _ d4 e4
  have e6 := heap_setCell_same _ g 5 _ _ d5 e5
  exact ⟨⟨cell_of_row _ _ 1 _ _ _ e1, frozen_of_row _ _ 1 _ _ e1⟩, ⟨cell_of_row _ _ 2 _ _ _ e2, frozen_of_row _ _ 2 _ _ e2⟩, ⟨cell_of_row _ _ 3 _ _ _ e3, frozen_of_row _ _ 3 _ _ e3⟩, ⟨cell_of_row _ _ 4 _ _ _ e4, frozen_of_row _ _ 4 _ _ e4⟩, ⟨cell_of_row _ _ 5 _ _ _ e5, frozen_of_row _ _ 5 _ _ e5⟩, e6⟩
theorem six_B {B : Nat} {a w : World} (h : Below B a w) {g : Nat} (hg : B ≤ g) (d0 d1 d2 d3 d4 d5 : Value) : Below B a ((((((w.setCell ⟨g, 0, none⟩ d0).setCell ⟨g, 1, none⟩ d1).setCell ⟨g, 2, none⟩ d2).setCell ⟨g, 3, none⟩ d3).setCell ⟨g, 4, none⟩ d4).setCell ⟨g, 5, none⟩ d5) :=
  ((((((((((((h).setCell (p := ⟨g, 0, none⟩) hg d0)).setCell (p := ⟨g, 1, none⟩) hg d1)).setCell (p := ⟨g, 2, none⟩) hg d2)).setCell (p := ⟨g, 3, none⟩) hg d3)).setCell (p := ⟨g, 4, none⟩) hg d4)).setCell (p := ⟨g, 5, none⟩) hg d5)
theorem fr_i : (Tryd.prog.info? 25).map (·.size) = some 6 := by kernel_rfl
theorem six_B0 (w : World) (v : MsV) : Below w.heap.size w ((w.alloc (msC v)).alloc (.cells #[.int .i64 0, .bool false, .bool false, .bool false, .int .i64 0, .slice none 0 0] 25)) := ((Below.refl _ _).alloc (Nat.le_refl _) _).alloc (by simp) _
theorem six_M0 (w : World) (v : MsV) : MsAt ((w.alloc (msC v)).alloc (.cells #[.int .i64 0, .bool false, .bool false, .bool false, .int .i64 0, .slice none 0 0] 25)) w.heap.size v := (MsAt.box w v).kept (awB1 _ _)
theorem six_S0 (w : World) (v : MsV) : Six ((w.alloc (msC v)).alloc (.cells #[.int .i64 0, .bool false, .bool false, .bool false, .int .i64 0, .slice none 0 0] 25)) (w.heap.size + 1) (.int .i64 0) (.bool false) (.bool false) (.bool false) (.int .i64 0) (.slice none 0 0) := by
  have := heap_alloc_new (w.alloc (msC v)) (.cells #[.int .i64 0, .bool false, .bool false, .bool false, .int .i64 0, .slice none 0 0] 25)
  rw [show (w.alloc (msC v)).heap.size = w.heap.size + 1 by simp] at this
  exact this
theorem fill_any (g : Nat) (lb : Array Value) (eg : ∀ args w, (callFunc g args).run Tryd.prog w = .ok (.enter g args) w) (put : PutF) (Iv : World → List ByteArray → Prop) (bm : Nat) (v : MsV) (n8 : Nat) (w : World) (hM : MsIn w v) (hO : OkM v.m) (hsize : v.m.size = n8)
    (hput : ∀ W used s a c d, Iv W used → s ∈ v.m.sigs → s.nm ∉ used → IsBytes W a n8 c d → Calls Tryd.prog g (#[sgV s, .slice a n8 c] ++ lb) W (PutP (put s d) (fun w' => Iv w' (used ++ [s.nm])) bm n8 W))
    (hIv : ∀ W W' used, Iv W used → Below W.heap.size W W' → Iv W' used) (hmap : ∀ W used, Iv W used → ∃ es cl, W.heap[bm]? = some (.map es cl)) (hI : Iv w []) :
    Calls Tryd.prog 38 #[msV v, .func (.func g) #[] lb] w (FillP (fillE put v.m) (fun w' => Iv w' (usedL put v.m)) bm n8 w) := by
  by_cases h : 0 ≤ v.m.ch
  · exact fill_some g lb eg put Iv bm v n8 w hM hO hsize hput hIv hmap hI h
  · exact fill_none g lb eg put Iv bm v n8 w hM hO hsize hput hIv hmap hI (by omega)
end Bw
end Go.Proofs.YtgjkioknnjbjfaaDoor
