/- Frames as cells: plain facts. -/
import Derived.Test.YtfomempleaceiaaDoorW1
namespace Go.Proofs.YtfomempleaceiaaDoor
open Go.ChangeShapes Go.WideShapes Go.ChangeAt Go.RowKit
namespace Bw
open Bm
/-- frames as cells -/
def frC (l : List FrV) : List Value := l.flatMap FrV.cells
theorem frC_length (l : List FrV) : (frC l).length = l.length * 6 := by
  induction l with
  | nil => rfl
  | cons v l ih => rw [frC, List.flatMap_cons, List.length_append]; show 6 + (frC l).length = _; rw [ih, List.length_cons]; omega
theorem frC_at (l : List FrV) : ∀ (i k : Nat) (hi : i < l.length) (hk : k < 6), (frC l)[i * 6 + k]? = some ((l[i].cells)[k]'hk) := by
  induction l with
  | nil => intro i k hi; exact absurd hi (Nat.not_lt_zero _)
  | cons v l ih =>
    intro i k hi hk
    have e : frC (v :: l) = v.cells ++ frC l := rfl
    have h6 : v.cells.length = 6 := rfl
    rw [e]
    cases i with
    | zero => rw [Nat.zero_mul, Nat.zero_add, List.getElem?_append_left (by omega), List.getElem?_eq_getElem (by omega)]; rfl
    | succ i =>
      rw [List.getElem?_append_right (by omega), h6, show (i + 1) * 6 + k - 6 = i * 6 + k by omega, ih i k (by simpa using hi) hk]
      rfl
theorem frC_idx (l : List FrV) (j : Nat) (u : Value) (h : (frC l)[j]? = some u) : ∃ i k, ∃ hi : i < l.length, ∃ hk : k < 6, j = i * 6 + k ∧ u = (l[i].cells)[k]'hk := by
  have hj : j < l.length * 6 := by
    rcases Nat.lt_or_ge j (l.length * 6) with x | x
    · exact x
    · rw [List.getElem?_eq_none (by rw [frC_length]; exact x)] at h; cases h
  refine ⟨j / 6, j % 6, by omega, Nat.mod_lt _ (by omega), by omega, ?_⟩
  have := frC_at l (j / 6) (j % 6) (by omega) (Nat.mod_lt _ (by omega))
  rw [show j / 6 * 6 + j % 6 = j by omega, h] at this
  exact Option.some.inj this
theorem frC_one (l : List FrV) : ∀ u ∈ frC l, u.oneCell' = true := by
  intro u hu
  obtain ⟨v, _, hv⟩ := List.mem_flatMap.1 hu
  unfold FrV.cells at hv
  simp only [List.mem_cons, List.not_mem_nil, or_false] at hv
  rcases hv with rfl | rfl | rfl | rfl | rfl | rfl <;> rfl
end Bw
end Go.Proofs.YtfomempleaceiaaDoor
