/- The longest run that bits.Run tells of a row that Put made is five at most; of no program. -/
import Derived.Test.YtkfgcedbdfjofabStuffMath
import Derived.Test.YtkfgcedbdfjofabBitsRun
namespace Go.Proofs.Ytkfgcedbdfjofab
namespace Bw
open Bm

theorem runF_end (l : List UInt8) (i : Nat) (hi : i + 1 ≤ l.length) : i + 1 - (runF l (i + 1)).2 = (endR (l.take (i + 1))).2 ∧ l.getD (runF l (i + 1)).2 0 = (endR (l.take (i + 1))).1 := by
  induction i with
  | zero =>
    rw [runF_succ_same l 0 rfl, end_next l 0 (by omega)]
    refine ⟨?_, ?_⟩
    · show 1 = _
      unfold addR
      split <;> rfl
    · rw [addR_1]; rfl
  | succ i ih =>
    obtain ⟨h1, h2⟩ := ih (by omega)
    have hst := runF_st l (i + 1)
    rw [end_next l (i + 1) (by omega), addR_1]
    by_cases he : l.getD (i + 1) 0 = l.getD (runF l (i + 1)).2 0
    · rw [runF_succ_same l (i + 1) he]
      refine ⟨?_, he.symm⟩
      unfold addR
      rw [if_pos (by rw [← h2]; exact he)]
      simp only
      omega
    · rw [runF_succ_other l (i + 1) he]
      refine ⟨?_, rfl⟩
      rw [addR_other (by rw [← h2]; exact he)]
      simp only
      omega
theorem runF_most (l : List UInt8) (k : Nat) (h : ∀ j, (endR (l.take j)).2 ≤ k) (i : Nat) (hi : i ≤ l.length) : (runF l i).1 ≤ k := by
  induction i with
  | zero => exact Nat.zero_le _
  | succ i ih =>
    have h1 := (runF_end l i hi).1
    have h2 := h (i + 1)
    have h3 := ih (by omega)
    have e : (runF l (i + 1)).1 = max (runF l i).1 (i + 1 - (runF l (i + 1)).2) := by rw [runF]
    rw [e]
    omega
theorem run_put (l : List UInt8) (h : rowB l = true) : (runF (putF l) (putF l).length).1 ≤ 5 := runF_most _ 5 (putF_ends l h) _ (Nat.le_refl _)
end Bw
end Go.Proofs.Ytkfgcedbdfjofab
