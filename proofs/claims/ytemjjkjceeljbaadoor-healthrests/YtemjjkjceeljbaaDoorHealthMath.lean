/- Counters of errors, as data: plain facts; of no program. -/
import Derived.WalkKit
namespace Go.Proofs.YtemjjkjceeljbaaDoor
namespace Bw
/-- counters: of what was sent, of what was got, of rest -/
structure Hl where
  s : Int
  g : Int
  r : Int
def zeroH : Hl := ⟨0, 0, 0⟩
def okH (h : Hl) : Prop := 0 ≤ h.s ∧ h.s ≤ 256 ∧ 0 ≤ h.g ∧ h.g ≤ 255 ∧ 0 ≤ h.r ∧ h.r ≤ 127 ∧ (h.s ≠ 256 → h.r = 0)
def okB (h : Hl) : Bool := decide (0 ≤ h.s ∧ h.s ≤ 256 ∧ 0 ≤ h.g ∧ h.g ≤ 255 ∧ 0 ≤ h.r ∧ h.r ≤ 127 ∧ (h.s ≠ 256 → h.r = 0))
theorem okB_iff (h : Hl) : okB h = true ↔ okH h := decide_eq_true_iff
def chkH (h : Hl) : Int := if okB h then 0 else 3
def stateH (h : Hl) : Int := if h.s = 256 then 2 else if 128 ≤ h.s ∨ 128 ≤ h.g then 1 else 0
def stepH (h : Hl) (what : Int) : Hl :=
  if h.s = 256 then (if what = 6 then (if h.r + 1 = 128 then zeroH else ⟨h.s, h.g, h.r + 1⟩) else h)
  else if what = 1 then ⟨if 0 < h.s then h.s - 1 else h.s, h.g, h.r⟩
  else if what = 2 then ⟨h.s, if 127 < h.g then 126 else if 0 < h.g then h.g - 1 else h.g, h.r⟩
  else if what = 3 then ⟨if 256 < h.s + 8 then 256 else h.s + 8, h.g, h.r⟩
  else if what = 4 then ⟨h.s, if h.g < 255 then h.g + 1 else h.g, h.r⟩
  else if what = 5 then ⟨h.s, if 255 < h.g + 8 then 255 else h.g + 8, h.r⟩
  else h
theorem stepH_ok (h : Hl) (what : Int) (ho : okH h) : okH (stepH h what) := by
  obtain ⟨s, g, r⟩ := h
  unfold okH at ho
  simp only at ho
  obtain ⟨h1, h2, h3, h4, h5, h6, h7⟩ := ho
  unfold stepH
  simp only
  by_cases hs : s = 256
  · rw [if_pos hs]
    split
    · split
      · unfold okH zeroH; simp
      · unfold okH; simp only; omega
    · unfold okH; simp only; omega
  · have hr := h7 hs
    rw [if_neg hs]
    repeat' split
    all_goals (unfold okH; simp only; omega)
/-- so many of what happens -/
def runK (h : Hl) (l : List Int) : Nat → Hl
  | 0 => h
  | k + 1 => stepH (runK h l k) (l.getD k 0)
theorem runK_ok (h : Hl) (l : List Int) (ho : okH h) : ∀ k, okH (runK h l k)
  | 0 => ho
  | k + 1 => stepH_ok _ _ (runK_ok h l ho k)
def isW (x : Int) : Bool := decide (1 ≤ x) && decide (x ≤ 6)
/-- the place of the first that is none of these, or their number -/
def badK : List Int → Nat
  | [] => 0
  | x :: l => if isW x then badK l + 1 else 0
theorem badK_le : ∀ l, badK l ≤ l.length
  | [] => Nat.le_refl _
  | x :: l => by rw [badK]; have := badK_le l; split <;> simp; omega
theorem badK_before : ∀ (l : List Int) (k : Nat), k < badK l → isW (l.getD k 0) = true
  | [], k, h => absurd h (Nat.not_lt_zero _)
  | x :: l, k, h => by
    rw [badK] at h
    split at h
    · rename_i hx
      cases k with
      | zero => simpa using hx
      | succ k => simpa using badK_before l k (by omega)
    · exact absurd h (Nat.not_lt_zero _)
theorem badK_at : ∀ (l : List Int), badK l < l.length → isW (l.getD (badK l) 0) = false
  | [], h => absurd h (Nat.not_lt_zero _)
  | x :: l, h => by
    rw [badK] at h ⊢
    split
    · rename_i hx
      rw [if_pos hx] at h
      simpa using badK_at l (by simpa using h)
    · rename_i hx
      simpa using hx
/-- what Step tells: its error, the place, the counters -/
def stepE (h : Hl) (l : List Int) : Int := if okB h then (if 1000 < l.length then 2 else if badK l < l.length then 8 else 0) else 3
def stepA (h : Hl) (l : List Int) : Int := if stepE h l = 8 then (badK l : Int) else 0
def stepO (h : Hl) (l : List Int) : Hl := if stepE h l = 0 then runK h l l.length else zeroH
end Bw
end Go.Proofs.YtemjjkjceeljbaaDoor
