/- The law PartTold: the parts, and where they lie. -/
import Derived.Test.YtgjnfmbmndnihaaPtCs
import Derived.Test.YtgjnfmbmndnihaaPtLed
import Derived.Test.YtgjnfmbmndnihaaPtTold
import Derived.Test.YtgjnfmbmndnihaaPtNext
import Derived.Test.YtgjnfmbmndnihaaPtAnewLaw
import Derived.Test.YtgjnfmbmndnihaaPtSplitLaw
namespace Go.Proofs.Ytgjnfmbmndnihaa
open Go.ChangeShapes Go.WideShapes Go.ChangeAt Go.RowKit
namespace Bw
open Bm
set_option linter.unusedVariables false
theorem cell_setK {w : World} {x : Addr} {i : Nat} {v : Value} {g : Nat} (hg : x.block ≠ g) (h : w.cell? (x.add i) = some v) (j : Nat) (u : Value) : (w.setCell ⟨g, j, none⟩ u).cell? (x.add i) = some v := by
  have hblk : (x.add i).block = x.block := by unfold Addr.add; split <;> rfl
  rw [cell_ne (by rw [hblk]; exact hg)]
  exact h
theorem cell_set5 {w : World} {x : Addr} {i : Nat} {v : Value} {g : Nat} (hg : x.block ≠ g) (h : w.cell? (x.add i) = some v) (a b c d e : Value) : (set5 w g a b c d e).cell? (x.add i) = some v := cell_setK hg (cell_setK hg (cell_setK hg (cell_setK hg (cell_setK hg h 0 a) 1 b) 2 c) 3 d) 4 e
theorem partsOf_at (x : Addr) (len cap : Nat) (l : List UInt8) (w : World) (hD : IsBytes w (some x) len cap l) (h7 : 7 < len) (h3 : len ≤ 300) :
    Calls Try.prog 14 #[.slice (some x) len cap] w fun e w' => ∃ (gx : Addr) (c NP : Nat), e = .returned (.slice (some gx) NP c) ∧ NP = 1 + nxN len ∧ PtsF w' gx NP (partsL l) w.heap.size ∧ Below w.heap.size w w' := by
  refine (partsOf_far x len cap l w hD h7 h3).mono ?_
  rintro e w' ⟨g, c, n, rfl, h1, h2, h3, h4, h5⟩
  exact ⟨_, c, n, rfl, h1, h5, h4⟩
end Bw
end Go.Proofs.Ytgjnfmbmndnihaa
