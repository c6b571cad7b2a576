/- The first that meets a condition; of no program. -/
import Derived.Test.YtgjkioknnjbjfaaDoorBase0
namespace Go.Proofs.YtgjkioknnjbjfaaDoor
open Go.ChangeShapes Go.WideShapes Go.ChangeAt Go.RowKit
namespace Bw
def idxK (f : Nat → Bool) : Nat → Int
  | 0 => -1
  | k + 1 => if 0 ≤ idxK f k then idxK f k else if f k = true then (k : Int) else -1
theorem idxK_none {f : Nat → Bool} : ∀ {n : Nat}, (∀ j, j < n → f j = false) → idxK f n = -1
  | 0, _ => rfl
  | n + 1, h => by
    have h1 := idxK_none (f := f) (n := n) (fun j hj => h j (by omega))
    have h2 := h n (by omega)
    simp [idxK, h1, h2]
theorem idxK_hit {f : Nat → Bool} {k : Nat} (h : ∀ j, j < k → f j = false) (hk : f k = true) : ∀ {n : Nat}, k < n → idxK f n = k
  | 0, hn => absurd hn (Nat.not_lt_zero _)
  | n + 1, hn => by
    by_cases e : n = k
    · subst e
      have h1 := idxK_none h
      simp [idxK, h1, hk]
    · have h1 := idxK_hit h hk (n := n) (by omega)
      simp [idxK, h1]
theorem idx_first (f : Nat → Bool) (n : Nat) : (∀ j, j < n → f j = false) ∨ ∃ k, k < n ∧ f k = true ∧ ∀ j, j < k → f j = false := by
  induction n with
  | zero => exact .inl (fun j hj => absurd hj (Nat.not_lt_zero _))
  | succ n ih =>
    rcases ih with h | ⟨k, hk, h1, h2⟩
    · cases hn : f n with
      | true => exact .inr ⟨n, by omega, hn, h⟩
      | false =>
        refine .inl fun j hj => ?_
        by_cases e : j = n
        · subst e; exact hn
        · exact h j (by omega)
    · exact .inr ⟨k, by omega, h1, h2⟩
theorem idx_any {α : Type} (p : α → Bool) (z : α) {l : List α} {n : Nat} (hl : l.length = n) : decide (0 ≤ idxK (fun i => p (l.getD i z)) n) = l.any p := by
  rcases idx_first (fun i => p (l.getD i z)) n with h | ⟨k, hk, h1, h2⟩
  · rw [idxK_none h]
    symm
    show l.any p = false
    rw [List.any_eq_false]
    intro x hx
    obtain ⟨i, hi, rfl⟩ := List.mem_iff_getElem.1 hx
    have := h i (by omega)
    simp only [List.getD, List.getElem?_eq_getElem hi, Option.getD_some] at this
    simp [this]
  · rw [idxK_hit h2 h1 hk]
    have : l.any p = true := by
      rw [List.any_eq_true]
      have hk' : k < l.length := by omega
      refine ⟨l[k], List.getElem_mem hk', ?_⟩
      simpa only [List.getD, List.getElem?_eq_getElem hk', Option.getD_some] using h1
    rw [this]
    simp
end Bw
end Go.Proofs.YtgjkioknnjbjfaaDoor
