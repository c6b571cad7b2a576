/- A variable of five cells: what is read there, and what is stored. -/
import Derived.Test.YtgjnfmbmndnihaaPtSender
namespace Go.Proofs.Ytgjnfmbmndnihaa
open Go.ChangeShapes Go.WideShapes Go.ChangeAt Go.RowKit
namespace Bw
/-- a variable of five cells -/
def Row5 (w : World) (g : Nat) (T : TypeId) (a b c d e : Value) : Prop := w.heap[g]? = some (.cells #[a, b, c, d, e] T (0, 0))
theorem Row5.lt {w : World} {g : Nat} {T : TypeId} {a b c d e : Value} (h : Row5 w g T a b c d e) : g < w.heap.size := (Array.getElem?_eq_some_iff.1 h).1
theorem Row5.kept {w w' : World} {g : Nat} {T : TypeId} {a b c d e : Value} (h : Row5 w g T a b c d e) (hb : Below w.heap.size w w') : Row5 w' g T a b c d e := by unfold Row5; rw [hb.block g h.lt]; exact h
theorem Row5.new (w : World) (T : TypeId) (a b c d e : Value) : Row5 (w.alloc (.cells #[a, b, c, d, e] T)) w.heap.size T a b c d e := heap_alloc_new w _
theorem Row5.cells {w : World} {g : Nat} {T : TypeId} {a b c d e : Value} (h : Row5 w g T a b c d e) : w.cell? ⟨g, 0, none⟩ = some a ∧ w.cell? ⟨g, 1, none⟩ = some b ∧ w.cell? ⟨g, 2, none⟩ = some c ∧ w.cell? ⟨g, 3, none⟩ = some d ∧ w.cell? ⟨g, 4, none⟩ = some e :=
  ⟨cell_of_row _ _ 0 _ _ _ h, cell_of_row _ _ 1 _ _ _ h, cell_of_row _ _ 2 _ _ _ h, cell_of_row _ _ 3 _ _ _ h, cell_of_row _ _ 4 _ _ _ h⟩
theorem Row5.frozen {w : World} {g : Nat} {T : TypeId} {a b c d e : Value} (h : Row5 w g T a b c d e) (i : Nat) : w.frozen? ⟨g, i, none⟩ = false := frozen_of_row _ _ i _ _ h
theorem Row5.set {w : World} {g : Nat} {T : TypeId} {a b c d e : Value} (h : Row5 w g T a b c d e) (v : Value) : (Row5 (w.setCell ⟨g, 0, none⟩ v) g T v b c d e ∧ Row5 (w.setCell ⟨g, 1, none⟩ v) g T a v c d e ∧ Row5 (w.setCell ⟨g, 2, none⟩ v) g T a b v d e) ∧ Row5 (w.setCell ⟨g, 3, none⟩ v) g T a b c v e ∧ Row5 (w.setCell ⟨g, 4, none⟩ v) g T a b c d v :=
  ⟨⟨heap_setCell_same _ g 0 _ _ v h, heap_setCell_same _ g 1 _ _ v h, heap_setCell_same _ g 2 _ _ v h⟩, heap_setCell_same _ g 3 _ _ v h, heap_setCell_same _ g 4 _ _ v h⟩
/-- all five stored -/
def set5 (w : World) (g : Nat) (a b c d e : Value) : World := ((((w.setCell ⟨g, 0, none⟩ a).setCell ⟨g, 1, none⟩ b).setCell ⟨g, 2, none⟩ c).setCell ⟨g, 3, none⟩ d).setCell ⟨g, 4, none⟩ e
theorem Row5.store {w : World} {g : Nat} {T : TypeId} {a b c d e : Value} (h : Row5 w g T a b c d e) (a' b' c' d' e' : Value) :
    ((w.setCell ⟨g, 0, none⟩ a').cell? ⟨g, 1, none⟩ = some b ∧ (w.setCell ⟨g, 0, none⟩ a').frozen? ⟨g, 1, none⟩ = false) ∧
    (((w.setCell ⟨g, 0, none⟩ a').setCell ⟨g, 1, none⟩ b').cell? ⟨g, 2, none⟩ = some c ∧ ((w.setCell ⟨g, 0, none⟩ a').setCell ⟨g, 1, none⟩ b').frozen? ⟨g, 2, none⟩ = false) ∧
    ((((w.setCell ⟨g, 0, none⟩ a').setCell ⟨g, 1, none⟩ b').setCell ⟨g, 2, none⟩ c').cell? ⟨g, 3, none⟩ = some d ∧ (((w.setCell ⟨g, 0, none⟩ a').setCell ⟨g, 1, none⟩ b').setCell ⟨g, 2, none⟩ c').frozen? ⟨g, 3, none⟩ = false) ∧
    (((((w.setCell ⟨g, 0, none⟩ a').setCell ⟨g, 1, none⟩ b').setCell ⟨g, 2, none⟩ c').setCell ⟨g, 3, none⟩ d').cell? ⟨g, 4, none⟩ = some e ∧ ((((w.setCell ⟨g, 0, none⟩ a').setCell ⟨g, 1, none⟩ b').setCell ⟨g, 2, none⟩ c').setCell ⟨g, 3, none⟩ d').frozen? ⟨g, 4, none⟩ = false) ∧
    Row5 (set5 w g a' b' c' d' e') g T a' b' c' d' e' := by
  have e1 := (h.set a').1.1
  have e2 := (e1.set b').1.2.1
  have e3 := (e2.set c').1.2.2
  have e4 := (e3.set d').2.1
  have e5 := (e4.set e').2.2
  exact ⟨⟨e1.cells.2.1, e1.frozen 1⟩, ⟨e2.cells.2.2.1, e2.frozen 2⟩, ⟨e3.cells.2.2.2.1, e3.frozen 3⟩, ⟨e4.cells.2.2.2.2, e4.frozen 4⟩, e5⟩
theorem set5_below {B : Nat} {x w : World} (h : Below B x w) {g : Nat} (hg : B ≤ g) (a b c d e : Value) : Below B x (set5 w g a b c d e) :=
  ((((h.setCell (p := ⟨g, 0, none⟩) hg a).setCell (p := ⟨g, 1, none⟩) hg b).setCell (p := ⟨g, 2, none⟩) hg c).setCell (p := ⟨g, 3, none⟩) hg d).setCell (p := ⟨g, 4, none⟩) hg e
theorem cell_ne {w : World} {g : Nat} {i : Nat} {v : Value} {a : Addr} (h : a.block ≠ g) : (w.setCell ⟨g, i, none⟩ v).cell? a = w.cell? a := by
  unfold World.cell?
  rw [heap_setCell_other w ⟨g, i, none⟩ a.block v h]
theorem isBytes_set {w : World} {x : Addr} {len cap : Nat} {l : List UInt8} (h : IsBytes w (some x) len cap l) {g : Nat} (hg : x.block ≠ g) (i : Nat) (v : Value) : IsBytes (w.setCell ⟨g, i, none⟩ v) (some x) len cap l := by
  refine ⟨h.1, h.2.1, h.2.2.1, h.2.2.2.1, fun y hy j hj => ?_⟩
  have h1 := h.2.2.2.2 y hy j hj
  cases hy
  have hblk : (x.add j).block = x.block := by unfold Addr.add; split <;> rfl
  rw [cell_ne (by rw [hblk]; exact hg)]
  exact h1
theorem isBytes_set5 {w : World} {x : Addr} {len cap : Nat} {l : List UInt8} (h : IsBytes w (some x) len cap l) {g : Nat} (hg : x.block ≠ g) (a b c d e : Value) : IsBytes (set5 w g a b c d e) (some x) len cap l :=
  isBytes_set (isBytes_set (isBytes_set (isBytes_set (isBytes_set h hg _ _) hg _ _) hg _ _) hg _ _) hg _ _
/-- bytes that lie apart from a block, or no bytes -/
theorem isBytes_set' {w : World} {o : Option Addr} {len cap : Nat} {l : List UInt8} (h : IsBytes w o len cap l) {g : Nat} (hg : ∀ x, o = some x → x.block ≠ g) (i : Nat) (v : Value) : IsBytes (w.setCell ⟨g, i, none⟩ v) o len cap l := by
  cases o with
  | none => exact ⟨h.1, h.2.1, h.2.2.1, h.2.2.2.1, fun y hy => by cases hy⟩
  | some x => exact isBytes_set h (hg x rfl) i v
theorem isBytes_set5' {w : World} {o : Option Addr} {len cap : Nat} {l : List UInt8} (h : IsBytes w o len cap l) {g : Nat} (hg : ∀ x, o = some x → x.block ≠ g) (a b c d e : Value) : IsBytes (set5 w g a b c d e) o len cap l :=
  isBytes_set' (isBytes_set' (isBytes_set' (isBytes_set' (isBytes_set' h hg _ _) hg _ _) hg _ _) hg _ _) hg _ _
theorem Row5.far {w : World} {g : Nat} {T : TypeId} {a b c d e : Value} (h : Row5 w g T a b c d e) {g' : Nat} (hg : g ≠ g') (i : Nat) (v : Value) : Row5 (w.setCell ⟨g', i, none⟩ v) g T a b c d e := by
  unfold Row5
  rw [heap_setCell_other w ⟨g', i, none⟩ g v hg]
  exact h
theorem Row5.far5 {w : World} {g : Nat} {T : TypeId} {a b c d e : Value} (h : Row5 w g T a b c d e) {g' : Nat} (hg : g ≠ g') (v0 v1 v2 v3 v4 : Value) : Row5 (((((w.setCell ⟨g', 0, none⟩ v0).setCell ⟨g', 1, none⟩ v1).setCell ⟨g', 2, none⟩ v2).setCell ⟨g', 3, none⟩ v3).setCell ⟨g', 4, none⟩ v4) g T a b c d e :=
  ((((h.far hg _ _).far hg _ _).far hg _ _).far hg _ _).far hg _ _
end Bw
end Go.Proofs.Ytgjnfmbmndnihaa
