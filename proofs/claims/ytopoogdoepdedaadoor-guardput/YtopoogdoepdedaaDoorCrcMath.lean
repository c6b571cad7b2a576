/- Plain facts on numbers as polynomials over two elements: multiples of one, and the register that takes bit by bit; of no program. -/
import Derived.Test.YtopoogdoepdedaaDoorBitsMath
namespace Go.Proofs.YtopoogdoepdedaaDoor.Cm

/-- the product without carries -/
def clm (d : Nat) : Nat → Nat
  | 0 => 0
  | q + 1 => (if (q + 1) % 2 = 1 then d else 0) ^^^ (2 * clm d ((q + 1) / 2))

theorem clm_zero (d : Nat) : clm d 0 = 0 := by rw [clm]
theorem clm_eq (d q : Nat) : clm d q = (if q % 2 = 1 then d else 0) ^^^ (2 * clm d (q / 2)) := by
  cases q with
  | zero => simp [clm_zero]
  | succ q => rw [clm]

theorem two_xor (a b : Nat) : 2 * (a ^^^ b) = (2 * a) ^^^ (2 * b) := by
  apply Nat.eq_of_testBit_eq
  intro i
  cases i with
  | zero => simp
  | succ i => simp [Nat.testBit_succ, Nat.xor_div_two]
theorem xor_half (a b : Nat) : (a ^^^ b) / 2 = a / 2 ^^^ b / 2 := Nat.xor_div_two
theorem xor_odd (a b : Nat) : (a ^^^ b) % 2 = 1 ↔ (a % 2 = 1 ∧ b % 2 = 0) ∨ (a % 2 = 0 ∧ b % 2 = 1) := by
  have h := Nat.testBit_xor a b 0
  rw [Nat.testBit_zero, Nat.testBit_zero, Nat.testBit_zero] at h
  by_cases hp : (a ^^^ b) % 2 = 1 <;> by_cases hq : a % 2 = 1 <;> by_cases hr : b % 2 = 1
  all_goals first
    | (rw [decide_eq_true hp, decide_eq_true hq, decide_eq_true hr] at h; cases h)
    | (rw [decide_eq_true hp, decide_eq_false hq, decide_eq_false hr] at h; cases h)
    | (rw [decide_eq_false hp, decide_eq_true hq, decide_eq_false hr] at h; cases h)
    | (rw [decide_eq_false hp, decide_eq_false hq, decide_eq_true hr] at h; cases h)
    | omega
theorem xor_lc (x y z : Nat) : x ^^^ (y ^^^ z) = y ^^^ (x ^^^ z) := by rw [← Nat.xor_assoc, Nat.xor_comm x y, Nat.xor_assoc]
theorem xor_eq_of {a b : Nat} (h : a ^^^ b = 0) : a = b := by
  have := congrArg (· ^^^ b) h
  simp only [Nat.xor_assoc, Nat.xor_self, Nat.xor_zero, Nat.zero_xor] at this
  exact this

theorem clm_xor (d : Nat) (a : Nat) : ∀ b, clm d (a ^^^ b) = clm d a ^^^ clm d b := by
  induction a using Nat.strongRecOn with
  | ind a ih =>
    intro b
    by_cases h0 : a = 0
    · subst h0; simp [clm_zero]
    · rw [clm_eq d (a ^^^ b), clm_eq d a, clm_eq d b, xor_half, ih (a / 2) (by omega), two_xor]
      have h := xor_odd a b
      have ha : a % 2 = 0 ∨ a % 2 = 1 := by omega
      have hb : b % 2 = 0 ∨ b % 2 = 1 := by omega
      rcases ha with ha | ha <;> rcases hb with hb | hb
      · have : ¬ (a ^^^ b) % 2 = 1 := by rw [h]; omega
        rw [if_neg this, if_neg (by omega), if_neg (by omega)]
        simp
      · have : (a ^^^ b) % 2 = 1 := by rw [h]; omega
        rw [if_pos this, if_neg (by omega), if_pos hb]
        simp only [Nat.zero_xor]
        exact xor_lc _ _ _
      · have : (a ^^^ b) % 2 = 1 := by rw [h]; omega
        rw [if_pos this, if_pos ha, if_neg (by omega)]
        simp [Nat.xor_assoc]
      · have : ¬ (a ^^^ b) % 2 = 1 := by rw [h]; omega
        rw [if_neg this, if_pos ha, if_pos hb]
        simp only [Nat.zero_xor]
        rw [show ∀ x y z : Nat, x ^^^ y ^^^ (x ^^^ z) = y ^^^ z by
          intro x y z
          rw [Nat.xor_comm x y, Nat.xor_assoc, ← Nat.xor_assoc x x, Nat.xor_self, Nat.zero_xor]]
theorem clm_two (d q : Nat) : clm d (2 * q) = 2 * clm d q := by
  rw [clm_eq, if_neg (by omega), Nat.zero_xor, Nat.mul_div_cancel_left _ (by omega)]
theorem clm_one (d : Nat) : clm d 1 = d := by rw [clm_eq]; simp [clm_zero]
theorem clm_pow (d k : Nat) : clm d (2 ^ k) = d * 2 ^ k := by
  induction k with
  | zero => rw [Nat.pow_zero, clm_one, Nat.mul_one]
  | succ k ih => rw [Nat.pow_succ, Nat.mul_comm (2 ^ k) 2, clm_two, ih, Nat.mul_left_comm]

/-- n is a multiple of d -/
def Mul (d n : Nat) : Prop := ∃ q, clm d q = n
theorem Mul.zero (d : Nat) : Mul d 0 := ⟨0, clm_zero d⟩
theorem Mul.self (d : Nat) : Mul d d := ⟨1, clm_one d⟩
theorem Mul.shift (d k : Nat) : Mul d (d * 2 ^ k) := ⟨2 ^ k, clm_pow d k⟩
theorem Mul.xor {d a b : Nat} (ha : Mul d a) (hb : Mul d b) : Mul d (a ^^^ b) := by
  obtain ⟨p, rfl⟩ := ha
  obtain ⟨q, rfl⟩ := hb
  exact ⟨p ^^^ q, clm_xor d p q⟩
theorem Mul.two {d a : Nat} (ha : Mul d a) : Mul d (2 * a) := by
  obtain ⟨p, rfl⟩ := ha
  exact ⟨2 * p, clm_two d p⟩
theorem Mul.half {d a : Nat} (hd : d % 2 = 1) (ha : Mul d (2 * a)) : Mul d a := by
  obtain ⟨q, hq⟩ := ha
  have hev : q % 2 = 0 := by
    by_cases h : q % 2 = 1
    · exfalso
      rw [clm_eq, if_pos h] at hq
      have := (xor_odd d (2 * clm d (q / 2))).2 (.inl ⟨hd, by omega⟩)
      rw [hq] at this
      omega
    · omega
  refine ⟨q / 2, ?_⟩
  have e : q = 2 * (q / 2) := by omega
  rw [e, clm_two] at hq
  omega
theorem Mul.unshift {d a : Nat} (hd : d % 2 = 1) (k : Nat) (ha : Mul d (a * 2 ^ k)) : Mul d a := by
  induction k with
  | zero => simpa using ha
  | succ k ih =>
    apply ih
    apply Mul.half hd
    rw [Nat.pow_succ, ← Nat.mul_assoc, Nat.mul_comm] at ha
    exact ha

theorem lt_xor {a b k : Nat} (ha : a < 2 ^ k) (hb : b < 2 ^ k) : a ^^^ b < 2 ^ k := Nat.xor_lt_two_pow ha hb
/-- the highest bit of a product is the sum of the highest bits -/
theorem clm_top (d s : Nat) (h1 : 2 ^ s ≤ d) (h2 : d < 2 ^ (s + 1)) (q : Nat) : ∀ t, 2 ^ t ≤ q → q < 2 ^ (t + 1) → 2 ^ (s + t) ≤ clm d q ∧ clm d q < 2 ^ (s + t + 1) := by
  induction q using Nat.strongRecOn with
  | ind q ih =>
    intro t ht1 ht2
    cases t with
    | zero =>
      have : q = 1 := by simp at ht1 ht2; omega
      subst this
      rw [clm_one]
      exact ⟨h1, h2⟩
    | succ t =>
      have hp : 2 ^ (t + 1) = 2 * 2 ^ t := by rw [Nat.pow_succ]; omega
      have hp2 : 2 ^ (t + 1 + 1) = 2 * 2 ^ (t + 1) := by rw [Nat.pow_succ]; omega
      have hq := Nat.two_pow_pos t
      obtain ⟨i1, i2⟩ := ih (q / 2) (by omega) t (by omega) (by omega)
      rw [clm_eq]
      have e1 : 2 ^ (s + (t + 1)) = 2 * 2 ^ (s + t) := by rw [← Nat.add_assoc, Nat.pow_succ]; omega
      have e2 : 2 ^ (s + (t + 1) + 1) = 2 * (2 * 2 ^ (s + t)) := by rw [Nat.pow_succ, e1]; omega
      have e3 : 2 ^ (s + t + 1) = 2 * 2 ^ (s + t) := by rw [Nat.pow_succ]; omega
      have hlow : (if q % 2 = 1 then d else 0) < 2 ^ (s + (t + 1)) := by
        have : 2 ^ (s + 1) ≤ 2 ^ (s + (t + 1)) := Nat.pow_le_pow_right (by omega) (by omega)
        have := Nat.two_pow_pos (s + (t + 1))
        split <;> omega
      generalize (if q % 2 = 1 then d else 0) = x at hlow
      have hhi : 2 * clm d (q / 2) = 2 ^ (s + (t + 1)) + (2 * clm d (q / 2) - 2 ^ (s + (t + 1))) := by omega
      have hb1 : (2 * clm d (q / 2)).testBit (s + (t + 1)) = true := by
        apply Nat.testBit_of_two_pow_le_and_two_pow_add_one_gt
        · omega
        · omega
      have hb0 : x.testBit (s + (t + 1)) = false := Nat.testBit_lt_two_pow hlow
      refine ⟨Nat.ge_two_pow_of_testBit (by rw [Nat.testBit_xor, hb0, hb1]; rfl), ?_⟩
      exact lt_xor (by omega) (by omega)
theorem Mul.small {d s n : Nat} (h1 : 2 ^ s ≤ d) (h2 : d < 2 ^ (s + 1)) (hn : n < 2 ^ s) (h : Mul d n) : n = 0 := by
  obtain ⟨q, rfl⟩ := h
  by_cases h0 : q = 0
  · subst h0; exact clm_zero d
  · exfalso
    have h3 := (clm_top d s h1 h2 q (Nat.log2 q) (Nat.log2_self_le h0) Nat.lt_log2_self).1
    have : 2 ^ s ≤ 2 ^ (s + Nat.log2 q) := Nat.pow_le_pow_right (by omega) (by omega)
    omega
theorem Mul.uniq {d s a b : Nat} (h1 : 2 ^ s ≤ d) (h2 : d < 2 ^ (s + 1)) (ha : a < 2 ^ s) (hb : b < 2 ^ s) (h : Mul d (a ^^^ b)) : a = b := by
  have := Mul.small h1 h2 (lt_xor ha hb) h
  exact xor_eq_of this
end Go.Proofs.YtopoogdoepdedaaDoor.Cm
