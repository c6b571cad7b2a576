/- A number of one's own that is made and filled somewhere in a drawn order. -/
import Derived.Test.YtgknolliicachaaDoorBigFrac
import Derived.Test.YtgknolliicachaaDoorOrdInv
namespace Go.Proofs.YtgknolliicachaaDoor
open Go.ChangeShapes Go.WideShapes Go.ChangeAt Go.RowKit Go.Sort
namespace Oi
open Ww Wm Sm
open Bw (Tch bl2 cell_kept)
def ptr (g o : Nat) : Value := .pointer (some ⟨g, o, none⟩)
def Box (b d : Bool) (r : Int) (n : Nat) (w : World) (g : Nat) (v : Value) : Prop :=
  b = true → v = ptr g 0 ∧ n ≤ g ∧ (∃ cs, BlkAt w g cs 68 ∧ IntV cs) ∧ (d = true → ZAt w g 0 r)
variable {b d : Bool} {r : Int} {n g : Nat} {v : Value} {W W' : World}
theorem Box.kept (h : Box b d r n W g v) (hb : Below W.heap.size W W') : Box b d r n W' g v := fun e => by
  obtain ⟨h1, h2, ⟨cs, h3, h4⟩, h5⟩ := h e
  exact ⟨h1, h2, ⟨cs, h3.kept hb, h4⟩, fun e => (h5 e).kept hb⟩
theorem Box.tch (h : Box b d r n W g v) {k : Nat} {cs : List Value} {T : TypeId} (hb : BlkAt W k cs T) (hn : NoW cs) (ht : Tch [k] W W') (hne : b = true → g ≠ k) : Box b d r n W' g v := fun e => by
  obtain ⟨h1, h2, ⟨cs, h3, h4⟩, h5⟩ := h e
  exact ⟨h1, h2, ⟨cs, h3.tch ht (by simpa using hne e), h4⟩, fun e' => (h5 e').tch hb hn ht (hne e)⟩
theorem Box.lt (h : Box b d r n W g v) (e : b = true) : g < W.heap.size := by
  obtain ⟨_, _, ⟨cs, h3, _⟩, _⟩ := h e
  exact h3.lt
theorem Box.new (hn : n ≤ W.heap.size) : Box true false r n (W.alloc (.cells #[.bool false, .slice none 0 0] 68)) W.heap.size (ptr W.heap.size 0) := fun _ =>
  ⟨rfl, hn, ⟨_, zv_new W, zv_int⟩, fun e => Bool.noConfusion e⟩
theorem Box.fresh {b0 : Bool} (hn : n ≤ W.heap.size) (hd : d = true → b0 = true) (hb : b0 = false) : Box true d r n (W.alloc (.cells #[.bool false, .slice none 0 0] 68)) W.heap.size (ptr W.heap.size 0) := fun _ =>
  ⟨rfl, hn, ⟨_, zv_new W, zv_int⟩, fun e => absurd (hd e) (by rw [hb]; simp)⟩
end Oi
end Go.Proofs.YtgknolliicachaaDoor
