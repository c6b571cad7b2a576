/- How many errors make it off: plain facts; of no program. -/
import Derived.Test.YtemjjkjceeljbaaDoorHealthMath
namespace Go.Proofs.YtemjjkjceeljbaaDoor
namespace Bw
def tillH (h : Hl) : Int := (256 - h.s + 7) / 8
/-- so many errors in a row -/
def tk (h : Hl) : Nat → Hl
  | 0 => h
  | j + 1 => stepH (tk h j) 3
theorem tk_ok (h : Hl) (ho : okH h) : ∀ j, okH (tk h j)
  | 0 => ho
  | j + 1 => stepH_ok _ _ (tk_ok h ho j)
theorem tk_eq (h : Hl) (h0 : h.s < 256) : ∀ j : Nat, h.s + 8 * (j : Int) < 264 → tk h j = ⟨if 256 ≤ h.s + 8 * (j : Int) then 256 else h.s + 8 * (j : Int), h.g, h.r⟩
  | 0, _ => by
    rw [if_neg (by omega)]
    show h = _
    obtain ⟨s, g, r⟩ := h
    simp
  | j + 1, hj => by
    have ih := tk_eq h h0 j (by omega)
    rw [if_neg (by omega)] at ih
    rw [tk, ih]
    unfold stepH
    simp only
    rw [if_neg (show ¬ (h.s + 8 * (j : Int) = 256) by omega), if_neg (show ¬ (3 : Int) = 1 by decide), if_neg (show ¬ (3 : Int) = 2 by decide), if_pos trivial]
    congr 1
    by_cases h1 : 256 < h.s + 8 * (j : Int) + 8
    · rw [if_pos h1, if_pos (by omega)]
    · rw [if_neg h1]
      by_cases h2 : 256 ≤ h.s + 8 * ((j + 1 : Nat) : Int)
      · rw [if_pos h2]; omega
      · rw [if_neg h2]; omega
theorem till_range (h : Hl) (ho : okH h) : 0 ≤ tillH h ∧ tillH h ≤ 32 ∧ (tillH h = 0 ↔ h.s = 256) := by
  unfold okH at ho
  unfold tillH
  omega
theorem state_off (h : Hl) : stateH h = 2 ↔ h.s = 256 := by
  unfold stateH
  by_cases h0 : h.s = 256
  · rw [if_pos h0]; simp [h0]
  · rw [if_neg h0]
    split <;> simp [h0]
theorem till_before (h : Hl) (ho : okH h) (j : Nat) (hj : (j : Int) < tillH h) : stateH (tk h j) ≠ 2 := by
  have ho' := ho
  unfold okH at ho'
  have hs : h.s < 256 := by
    rcases (by omega : h.s = 256 ∨ h.s < 256) with x | x
    · have := (till_range h ho).2.2.2 x
      omega
    · exact x
  unfold tillH at hj
  have hlt : h.s + 8 * (j : Int) < 256 := by omega
  rw [Ne, state_off, tk_eq h hs j (by omega), if_neg (by omega)]
  simp only
  omega
theorem till_at (h : Hl) (ho : okH h) (j : Nat) (hj : (j : Int) = tillH h) : stateH (tk h j) = 2 := by
  have ho' := ho
  unfold okH at ho'
  rw [state_off]
  rcases (by omega : h.s = 256 ∨ h.s < 256) with x | x
  · have := (till_range h ho).2.2.2 x
    have hj0 : j = 0 := by omega
    subst hj0; exact x
  · unfold tillH at hj
    rw [tk_eq h x j (by omega), if_pos (by omega)]
end Bw
end Go.Proofs.YtemjjkjceeljbaaDoor
