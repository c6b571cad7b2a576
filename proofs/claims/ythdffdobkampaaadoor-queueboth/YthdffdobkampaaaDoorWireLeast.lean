/- The least of several texts: plain facts on lists; of no program. -/
import Derived.Test.YthdffdobkampaaaDoorWireMath
namespace Go.Proofs.YthdffdobkampaaaDoor
namespace Bw
open Bm
theorem less_irr : ∀ a : List UInt8, Op.bytesLess a a = false
  | [] => rfl
  | x :: a => by simp [Op.bytesLess, less_irr a]
theorem less_tot : ∀ a b : List UInt8, Op.bytesLess a b = false → Op.bytesLess b a = false → a = b
  | [], [], _, _ => rfl
  | [], y :: b, h, _ => by simp [Op.bytesLess] at h
  | x :: a, [], _, h => by simp [Op.bytesLess] at h
  | x :: a, y :: b, h1, h2 => by
    by_cases h : x = y
    · subst h
      simp [Op.bytesLess] at h1 h2
      rw [less_tot a b h1 h2]
    · have h' : ¬ y = x := fun e => h e.symm
      simp [Op.bytesLess, h] at h1
      simp [Op.bytesLess, h'] at h2
      exact absurd (UInt8.le_antisymm h2 h1) h
theorem less_tr : ∀ a b c : List UInt8, Op.bytesLess a b = true → Op.bytesLess b c = true → Op.bytesLess a c = true
  | _, [], [], h, _ => by
    rename_i a; cases a <;> simp [Op.bytesLess] at h
  | [], _, z :: c, _, _ => by simp [Op.bytesLess]
  | a, y :: b, [], _, h => by simp [Op.bytesLess] at h
  | x :: a, [], _, h, _ => by simp [Op.bytesLess] at h
  | x :: a, y :: b, z :: c, h1, h2 => by
    by_cases h : x = y
    · subst h
      by_cases h' : x = z
      · subst h'
        simp [Op.bytesLess] at h1 h2 ⊢
        exact less_tr a b c h1 h2
      · simp [Op.bytesLess, h'] at h2 ⊢
        exact h2
    · simp [Op.bytesLess, h] at h1
      by_cases h' : y = z
      · subst h'
        simp [Op.bytesLess, h]
        exact h1
      · simp [Op.bytesLess, h'] at h2
        have h3 := UInt8.lt_trans h1 h2
        have h4 : ¬ x = z := fun e => by rw [e] at h3; exact absurd h3 (UInt8.lt_irrefl _)
        simp [Op.bytesLess, h4]
        exact h3
theorem less_ne {a b : List UInt8} (h : Op.bytesLess a b = true) : a ≠ b := fun e => by rw [e, less_irr] at h; cases h
theorem less_not {a b : List UInt8} (h : Op.bytesLess a b = true) : Op.bytesLess b a = false := by
  rcases Bool.eq_false_or_eq_true (Op.bytesLess b a) with h' | h'
  · have := less_tr a b a h h'
    rw [less_irr] at this; cases this
  · exact h'
/-- the lesser of two texts, the first one if they are alike -/
def minB (m x : List UInt8) : List UInt8 := if Op.bytesLess x m = true then x else m
def minJ (l : List (List UInt8)) : Nat → List UInt8
  | 0 => l.getD 0 []
  | i + 1 => minB (minJ l i) (l.getD (i + 1) [])
theorem minB_or (m x : List UInt8) : minB m x = x ∨ minB m x = m := by unfold minB; split; exact .inl rfl; exact .inr rfl
theorem minB_le (m x : List UInt8) : Op.bytesLess x (minB m x) = false ∧ Op.bytesLess m (minB m x) = false := by
  unfold minB
  split
  · rename_i h
    refine ⟨less_irr x, ?_⟩
    rcases Bool.eq_false_or_eq_true (Op.bytesLess m x) with h' | h'
    · have := less_tr x m x h h'
      rw [less_irr] at this; cases this
    · exact h'
  · rename_i h
    exact ⟨by simpa using h, less_irr m⟩
theorem less_le {a b c : List UInt8} (h1 : Op.bytesLess a b = false) (h2 : Op.bytesLess b c = false) : Op.bytesLess a c = false := by
  rcases Bool.eq_false_or_eq_true (Op.bytesLess a c) with h | h
  · rcases Bool.eq_false_or_eq_true (Op.bytesLess b a) with h3 | h3
    · have := less_tr b a c h3 h
      rw [h2] at this; cases this
    · have e := less_tot a b h1 h3
      rw [e, h2] at h; cases h
  · exact h
theorem minJ_least (l : List (List UInt8)) : ∀ i, i < l.length → minJ l i ∈ l.take (i + 1) ∧ ∀ k, k ≤ i → Op.bytesLess (l.getD k []) (minJ l i) = false
  | 0, h => by
    refine ⟨?_, fun k hk => ?_⟩
    · show l.getD 0 [] ∈ _
      have : l.getD 0 [] = l[0] := by simp [List.getD, h]
      rw [this]
      exact List.mem_take_iff_getElem.2 ⟨0, by omega, rfl⟩
    · have : k = 0 := by omega
      subst this; exact less_irr _
  | i + 1, h => by
    obtain ⟨h1, h2⟩ := minJ_least l i (by omega)
    obtain ⟨m1, m2⟩ := minB_le (minJ l i) (l.getD (i + 1) [])
    refine ⟨?_, fun k hk => ?_⟩
    · rcases minB_or (minJ l i) (l.getD (i + 1) []) with e | e
      · rw [minJ, e]
        have : l.getD (i + 1) [] = l[i + 1] := by simp [List.getD, h]
        rw [this]
        exact List.mem_take_iff_getElem.2 ⟨i + 1, by omega, rfl⟩
      · rw [minJ, e]
        obtain ⟨j, hj, hx⟩ := List.mem_take_iff_getElem.1 h1
        exact List.mem_take_iff_getElem.2 ⟨j, by omega, hx⟩
    · rcases Nat.lt_or_ge i k with hx | hx
      · have : k = i + 1 := by omega
        subst this; exact m1
      · exact less_le (h2 k hx) m2
def minL (l : List (List UInt8)) : List UInt8 := minJ l (l.length - 1)
theorem minL_least (l : List (List UInt8)) (h : l ≠ []) : Least l (minL l) := by
  have hl : 0 < l.length := List.length_pos_iff.2 h
  obtain ⟨h1, h2⟩ := minJ_least l (l.length - 1) (by omega)
  refine ⟨List.mem_of_mem_take h1, fun r hr => ?_⟩
  obtain ⟨k, hk, rfl⟩ := List.getElem_of_mem hr
  have := h2 k (by omega)
  rw [show l.getD k [] = l[k] by simp [List.getD, hk]] at this
  exact this
/-- the least is one alone -/
theorem least_one_only {l : List (List UInt8)} {a b : List UInt8} (ha : Least l a) (hb : Least l b) : a = b := less_tot a b (hb.2 a ha.1) (ha.2 b hb.1)
end Bw
end Go.Proofs.YthdffdobkampaaaDoor
