/- Joined out of our texts: CrcMath, CrcReg, KindMath. -/
import Derived.Test.YthdffdobkampaaaDoorBitsMath
/- Plain facts on numbers as polynomials over two elements: multiples of one, and the register that takes bit by bit; of no program. -/
namespace Go.Proofs.YthdffdobkampaaaDoor.Cm

/-- the product without carries -/
def clm (d : Nat) : Nat → Nat
  | 0 => 0
  | q + 1 => (if (q + 1) % 2 = 1 then d else 0) ^^^ (2 * clm d ((q + 1) / 2))

theorem clm_zero (d : Nat) : clm d 0 = 0 := by rw [clm]
theorem clm_eq (d q : Nat) : clm d q = (if q % 2 = 1 then d else 0) ^^^ (2 * clm d (q / 2)) := by
  cases q with
  | zero => simp [clm_zero]
  | succ q => rw [clm]

theorem two_xor (a b : Nat) : 2 * (a ^^^ b) = (2 * a) ^^^ (2 * b) := by
  apply Nat.eq_of_testBit_eq
  intro i
  cases i with
  | zero => simp
  | succ i => simp [Nat.testBit_succ, Nat.xor_div_two]
theorem xor_half (a b : Nat) : (a ^^^ b) / 2 = a / 2 ^^^ b / 2 := Nat.xor_div_two
theorem xor_odd (a b : Nat) : (a ^^^ b) % 2 = 1 ↔ (a % 2 = 1 ∧ b % 2 = 0) ∨ (a % 2 = 0 ∧ b % 2 = 1) := by
  have h := Nat.testBit_xor a b 0
  rw [Nat.testBit_zero, Nat.testBit_zero, Nat.testBit_zero] at h
  by_cases hp : (a ^^^ b) % 2 = 1 <;> by_cases hq : a % 2 = 1 <;> by_cases hr : b % 2 = 1
  all_goals first
    | (rw [decide_eq_true hp, decide_eq_true hq, decide_eq_true hr] at h; cases h)
    | (rw [decide_eq_true hp, decide_eq_false hq, decide_eq_false hr] at h; cases h)
    | (rw [decide_eq_false hp, decide_eq_true hq, decide_eq_false hr] at h; cases h)
    | (rw [decide_eq_false hp, decide_eq_false hq, decide_eq_true hr] at h; cases h)
    | omega
theorem xor_lc (x y z : Nat) : x ^^^ (y ^^^ z) = y ^^^ (x ^^^ z) := by rw [← Nat.xor_assoc, Nat.xor_comm x y, Nat.xor_assoc]
theorem xor_eq_of {a b : Nat} (h : a ^^^ b = 0) : a = b := by
  have := congrArg (· ^^^ b) h
  simp only [Nat.xor_assoc, Nat.xor_self, Nat.xor_zero, Nat.zero_xor] at this
  exact this

theorem clm_xor (d : Nat) (a : Nat) : ∀ b, clm d (a ^^^ b) = clm d a ^^^ clm d b := by
  induction a using Nat.strongRecOn with
  | ind a ih =>
    intro b
    by_cases h0 : a = 0
    · subst h0; simp [clm_zero]
    · rw [clm_eq d (a ^^^ b), clm_eq d a, clm_eq d b, xor_half, ih (a / 2) (by omega), two_xor]
      have h := xor_odd a b
      have ha : a % 2 = 0 ∨ a % 2 = 1 := by omega
      have hb : b % 2 = 0 ∨ b % 2 = 1 := by omega
      rcases ha with ha | ha <;> rcases hb with hb | hb
      · have : ¬ (a ^^^ b) % 2 = 1 := by rw [h]; omega
        rw [if_neg this, if_neg (by omega), if_neg (by omega)]
        simp
      · have : (a ^^^ b) % 2 = 1 := by rw [h]; omega
        rw [if_pos this, if_neg (by omega), if_pos hb]
        simp only [Nat.zero_xor]
        exact xor_lc _ _ _
      · have : (a ^^^ b) % 2 = 1 := by rw [h]; omega
        rw [if_pos this, if_pos ha, if_neg (by omega)]
        simp [Nat.xor_assoc]
      · have : ¬ (a ^^^ b) % 2 = 1 := by rw [h]; omega
        rw [if_neg this, if_pos ha, if_pos hb]
        simp only [Nat.zero_xor]
        rw [show ∀ x y z : Nat, x ^^^ y ^^^ (x ^^^ z) = y ^^^ z by
          intro x y z
          rw [Nat.xor_comm x y, Nat.xor_assoc, ← Nat.xor_assoc x x, Nat.xor_self, Nat.zero_xor]]
theorem clm_two (d q : Nat) : clm d (2 * q) = 2 * clm d q := by
  rw [clm_eq, if_neg (by omega), Nat.zero_xor, Nat.mul_div_cancel_left _ (by omega)]
theorem clm_one (d : Nat) : clm d 1 = d := by rw [clm_eq]; simp [clm_zero]
theorem clm_pow (d k : Nat) : clm d (2 ^ k) = d * 2 ^ k := by
  induction k with
  | zero => rw [Nat.pow_zero, clm_one, Nat.mul_one]
  | succ k ih => rw [Nat.pow_succ, Nat.mul_comm (2 ^ k) 2, clm_two, ih, Nat.mul_left_comm]

/-- n is a multiple of d -/
def Mul (d n : Nat) : Prop := ∃ q, clm d q = n
theorem Mul.zero (d : Nat) : Mul d 0 := ⟨0, clm_zero d⟩
theorem Mul.self (d : Nat) : Mul d d := ⟨1, clm_one d⟩
theorem Mul.shift (d k : Nat) : Mul d (d * 2 ^ k) := ⟨2 ^ k, clm_pow d k⟩
theorem Mul.xor {d a b : Nat} (ha : Mul d a) (hb : Mul d b) : Mul d (a ^^^ b) := by
  obtain ⟨p, rfl⟩ := ha
  obtain ⟨q, rfl⟩ := hb
  exact ⟨p ^^^ q, clm_xor d p q⟩
theorem Mul.two {d a : Nat} (ha : Mul d a) : Mul d (2 * a) := by
  obtain ⟨p, rfl⟩ := ha
  exact ⟨2 * p, clm_two d p⟩
theorem Mul.half {d a : Nat} (hd : d % 2 = 1) (ha : Mul d (2 * a)) : Mul d a := by
  obtain ⟨q, hq⟩ := ha
  have hev : q % 2 = 0 := by
    by_cases h : q % 2 = 1
    · exfalso
      rw [clm_eq, if_pos h] at hq
      have := (xor_odd d (2 * clm d (q / 2))).2 (.inl ⟨hd, by omega⟩)
      rw [hq] at this
      omega
    · omega
  refine ⟨q / 2, ?_⟩
  have e : q = 2 * (q / 2) := by omega
  rw [e, clm_two] at hq
  omega
theorem Mul.unshift {d a : Nat} (hd : d % 2 = 1) (k : Nat) (ha : Mul d (a * 2 ^ k)) : Mul d a := by
  induction k with
  | zero => simpa using ha
  | succ k ih =>
    apply ih
    apply Mul.half hd
    rw [Nat.pow_succ, ← Nat.mul_assoc, Nat.mul_comm] at ha
    exact ha

theorem lt_xor {a b k : Nat} (ha : a < 2 ^ k) (hb : b < 2 ^ k) : a ^^^ b < 2 ^ k := Nat.xor_lt_two_pow ha hb
/-- the highest bit of a product is the sum of the highest bits -/
theorem clm_top (d s : Nat) (h1 : 2 ^ s ≤ d) (h2 : d < 2 ^ (s + 1)) (q : Nat) : ∀ t, 2 ^ t ≤ q → q < 2 ^ (t + 1) → 2 ^ (s + t) ≤ clm d q ∧ clm d q < 2 ^ (s + t + 1) := by
  induction q using Nat.strongRecOn with
  | ind q ih =>
    intro t ht1 ht2
    cases t with
    | zero =>
      have : q = 1 := by simp at ht1 ht2; omega
      subst this
      rw [clm_one]
      exact ⟨h1, h2⟩
    | succ t =>
      have hp : 2 ^ (t + 1) = 2 * 2 ^ t := by rw [Nat.pow_succ]; omega
      have hp2 : 2 ^ (t + 1 + 1) = 2 * 2 ^ (t + 1) := by rw [Nat.pow_succ]; omega
      have hq := Nat.two_pow_pos t
      obtain ⟨i1, i2⟩ := ih (q / 2) (by omega) t (by omega) (by omega)
      rw [clm_eq]
      have e1 : 2 ^ (s + (t + 1)) = 2 * 2 ^ (s + t) := by rw [← Nat.add_assoc, Nat.pow_succ]; omega
      have e2 : 2 ^ (s + (t + 1) + 1) = 2 * (2 * 2 ^ (s + t)) := by rw [Nat.pow_succ, e1]; omega
      have e3 : 2 ^ (s + t + 1) = 2 * 2 ^ (s + t) := by rw [Nat.pow_succ]; omega
      have hlow : (if q % 2 = 1 then d else 0) < 2 ^ (s + (t + 1)) := by
        have : 2 ^ (s + 1) ≤ 2 ^ (s + (t + 1)) := Nat.pow_le_pow_right (by omega) (by omega)
        have := Nat.two_pow_pos (s + (t + 1))
        split <;> omega
      generalize (if q % 2 = 1 then d else 0) = x at hlow
      have hhi : 2 * clm d (q / 2) = 2 ^ (s + (t + 1)) + (2 * clm d (q / 2) - 2 ^ (s + (t + 1))) := by omega
      have hb1 : (2 * clm d (q / 2)).testBit (s + (t + 1)) = true := by
        apply Nat.testBit_of_two_pow_le_and_two_pow_add_one_gt
        · omega
        · omega
      have hb0 : x.testBit (s + (t + 1)) = false := Nat.testBit_lt_two_pow hlow
      refine ⟨Nat.ge_two_pow_of_testBit (by rw [Nat.testBit_xor, hb0, hb1]; rfl), ?_⟩
      exact lt_xor (by omega) (by omega)
theorem Mul.small {d s n : Nat} (h1 : 2 ^ s ≤ d) (h2 : d < 2 ^ (s + 1)) (hn : n < 2 ^ s) (h : Mul d n) : n = 0 := by
  obtain ⟨q, rfl⟩ := h
  by_cases h0 : q = 0
  · subst h0; exact clm_zero d
  · exfalso
    have h3 := (clm_top d s h1 h2 q (Nat.log2 q) (Nat.log2_self_le h0) Nat.lt_log2_self).1
    have : 2 ^ s ≤ 2 ^ (s + Nat.log2 q) := Nat.pow_le_pow_right (by omega) (by omega)
    omega
theorem Mul.uniq {d s a b : Nat} (h1 : 2 ^ s ≤ d) (h2 : d < 2 ^ (s + 1)) (ha : a < 2 ^ s) (hb : b < 2 ^ s) (h : Mul d (a ^^^ b)) : a = b := by
  have := Mul.small h1 h2 (lt_xor ha hb) h
  exact xor_eq_of this
end Go.Proofs.YthdffdobkampaaaDoor.Cm

/- The register that takes a row bit by bit: what it holds is the row's number, moved up, less multiples of the polynomial; of no program. -/
namespace Go.Proofs.YthdffdobkampaaaDoor.Cm
open Bm

theorem eq_of_half {a b : Nat} (h1 : a / 2 = b / 2) (h2 : a % 2 = b % 2) : a = b := by omega
theorem two_add (v d : Nat) (hd : d ≤ 1) : 2 * v + d = (2 * v) ^^^ d := by
  apply eq_of_half
  · rw [xor_half]
    have e : d / 2 = 0 := by omega
    rw [e, Nat.xor_zero]
    omega
  · have h := xor_odd (2 * v) d
    have : (2 * v ^^^ d) % 2 = 0 ∨ (2 * v ^^^ d) % 2 = 1 := by omega
    rcases this with h' | h'
    · have : ¬ (2 * v ^^^ d) % 2 = 1 := by omega
      rw [h] at this
      omega
    · have := h.1 h'
      omega
theorem shift_xor (a b k : Nat) : (a ^^^ b) * 2 ^ k = (a * 2 ^ k) ^^^ (b * 2 ^ k) := by
  induction k with
  | zero => simp
  | succ k ih =>
    have e : ∀ x : Nat, x * 2 ^ (k + 1) = 2 * (x * 2 ^ k) := by intro x; rw [Nat.pow_succ, ← Nat.mul_assoc, Nat.mul_comm]
    rw [e, e, e, ih, two_xor]
/-- a number with its bit of place s: the rest, and that bit -/
theorem top_split (r s : Nat) (h : r < 2 ^ (s + 1)) : r = (r % 2 ^ s) ^^^ (r / 2 ^ s * 2 ^ s) := by
  have hq : r / 2 ^ s ≤ 1 := by
    have : r / 2 ^ s < 2 := Nat.div_lt_of_lt_mul (by rw [Nat.pow_succ] at h; omega)
    omega
  have hm : r % 2 ^ s < 2 ^ s := Nat.mod_lt _ (Nat.two_pow_pos s)
  have hd := Nat.div_add_mod r (2 ^ s)
  generalize r % 2 ^ s = m at *
  generalize r / 2 ^ s = q at *
  have hq' : q = 0 ∨ q = 1 := by omega
  rcases hq' with rfl | rfl
  · rw [Nat.zero_mul, Nat.xor_zero]; omega
  · rw [Nat.one_mul]
    have e : m ^^^ 2 ^ s = 2 ^ s + m := by
      have h1 := Nat.two_pow_add_eq_or_of_lt hm 1
      rw [Nat.mul_one] at h1
      rw [h1]
      apply Nat.eq_of_testBit_eq
      intro i
      rw [Nat.testBit_xor, Nat.testBit_or, Nat.testBit_two_pow]
      by_cases hi : s = i
      · subst hi
        rw [Nat.testBit_lt_two_pow hm]; simp
      · simp [hi]
    rw [e]; omega

def crcStep (s p r b : Nat) : Nat := ((2 * r) % 2 ^ s) ^^^ (if r / 2 ^ (s - 1) = b then 0 else p)
def crcR (s p r : Nat) (l : List UInt8) : Nat := l.foldl (fun r c => crcStep s p r (dig c)) r

theorem crcR_snoc (s p r : Nat) (l : List UInt8) (c : UInt8) : crcR s p r (l ++ [c]) = crcStep s p (crcR s p r l) (dig c) := by simp [crcR]
theorem crcR_cons (s p r : Nat) (l : List UInt8) (c : UInt8) : crcR s p r (c :: l) = crcR s p (crcStep s p r (dig c)) l := rfl
theorem crcStep_lt (s p r b : Nat) (hp : p < 2 ^ s) : crcStep s p r b < 2 ^ s := by
  unfold crcStep
  apply lt_xor (Nat.mod_lt _ (Nat.two_pow_pos s))
  have := Nat.two_pow_pos s
  split <;> omega
theorem crcR_lt (s p r : Nat) (hp : p < 2 ^ s) (hr : r < 2 ^ s) (l : List UInt8) : crcR s p r l < 2 ^ s := by
  induction l generalizing r with
  | nil => exact hr
  | cons c l ih => rw [crcR_cons]; exact ih _ (crcStep_lt s p r (dig c) hp)

theorem xor4 (a b c d : Nat) : (a ^^^ b) ^^^ (c ^^^ d) = (a ^^^ c) ^^^ (b ^^^ d) := by
  rw [Nat.xor_assoc, Nat.xor_assoc, xor_lc b c d]
theorem d_lo (s p : Nat) (hp : p < 2 ^ s) : 2 ^ s ^^^ p = 2 ^ s + p := by
  have h := top_split (2 ^ s + p) s (by rw [Nat.pow_succ]; omega)
  have e1 : (2 ^ s + p) % 2 ^ s = p := by rw [Nat.add_mod_left]; exact Nat.mod_eq_of_lt hp
  have e2 : (2 ^ s + p) / 2 ^ s = 1 := by
    rw [Nat.add_div_left _ (Nat.two_pow_pos s), Nat.div_eq_of_lt hp]
  rw [e1, e2, Nat.one_mul, Nat.xor_comm] at h
  exact h.symm

/-- one step: but for a multiple of the polynomial the register is doubled, the bit put in above -/
theorem step_mul (s p r b : Nat) (hs : 1 ≤ s) (hp : p < 2 ^ s) (hr : r < 2 ^ s) (hb : b ≤ 1) : Mul (2 ^ s + p) (crcStep s p r b ^^^ (2 * r ^^^ b * 2 ^ s)) := by
  have hps : 2 ^ s = 2 * 2 ^ (s - 1) := by
    obtain ⟨t, rfl⟩ : ∃ t, s = t + 1 := ⟨s - 1, by omega⟩
    rw [Nat.add_sub_cancel, Nat.pow_succ]; omega
  have h2r : 2 * r < 2 ^ (s + 1) := by rw [Nat.pow_succ]; omega
  have hsp := top_split (2 * r) s h2r
  have hdiv : 2 * r / 2 ^ s = r / 2 ^ (s - 1) := by rw [hps, Nat.mul_div_mul_left _ _ (by omega)]
  rw [hdiv] at hsp
  have hq : r / 2 ^ (s - 1) ≤ 1 := by
    have : r / 2 ^ (s - 1) < 2 := Nat.div_lt_of_lt_mul (by omega)
    omega
  unfold crcStep
  generalize hm : 2 * r % 2 ^ s = m at *
  generalize r / 2 ^ (s - 1) = q at *
  rw [hsp]
  by_cases h : q = b
  · subst h
    rw [if_pos rfl, Nat.xor_zero]
    have : m ^^^ (m ^^^ q * 2 ^ s ^^^ q * 2 ^ s) = 0 := by
      rw [Nat.xor_assoc, Nat.xor_self, Nat.xor_zero, Nat.xor_self]
    rw [this]
    exact Mul.zero _
  · rw [if_neg h]
    have e : m ^^^ p ^^^ (m ^^^ q * 2 ^ s ^^^ b * 2 ^ s) = 2 ^ s + p := by
      rw [← d_lo s p hp]
      have e1 : q * 2 ^ s ^^^ b * 2 ^ s = 2 ^ s := by
        have hqb : (q = 0 ∧ b = 1) ∨ (q = 1 ∧ b = 0) := by omega
        rcases hqb with ⟨rfl, rfl⟩ | ⟨rfl, rfl⟩ <;> simp
      rw [Nat.xor_assoc m (q * 2 ^ s), e1, xor4, Nat.xor_self, Nat.zero_xor, Nat.xor_comm]
    rw [e]
    exact Mul.self _
theorem Mul.tr {d a b c : Nat} (h1 : Mul d (a ^^^ b)) (h2 : Mul d (b ^^^ c)) : Mul d (a ^^^ c) := by
  have := h1.xor h2
  rw [Nat.xor_assoc, ← Nat.xor_assoc b b c, Nat.xor_self, Nat.zero_xor] at this
  exact this

/-- the row's number, moved up, what it starts from turned into its first bits -/
def crcT (s f : Nat) (l : List UInt8) : Nat := val l * 2 ^ s ^^^ f * 2 ^ l.length
theorem crcT_snoc (s f : Nat) (l : List UInt8) (c : UInt8) (hc : bit c = true) : crcT s f (l ++ [c]) = 2 * crcT s f l ^^^ dig c * 2 ^ s := by
  unfold crcT
  rw [val_snoc, two_add _ _ (bit_dig hc).1, shift_xor, List.length_append, List.length_singleton, two_xor]
  have e1 : 2 * val l * 2 ^ s = 2 * (val l * 2 ^ s) := Nat.mul_assoc _ _ _
  have e2 : f * 2 ^ (l.length + 1) = 2 * (f * 2 ^ l.length) := by rw [Nat.pow_succ, ← Nat.mul_assoc, Nat.mul_comm]
  rw [e1, e2, Nat.xor_assoc, Nat.xor_comm (dig c * 2 ^ s), ← Nat.xor_assoc]
theorem crc_mul (s p f : Nat) (hs : 1 ≤ s) (hp : p < 2 ^ s) (hf : f < 2 ^ s) (r : List UInt8) : rowB r.reverse = true → Mul (2 ^ s + p) (crcR s p f r.reverse ^^^ crcT s f r.reverse) := by
  induction r with
  | nil =>
    intro _
    have : crcR s p f [].reverse ^^^ crcT s f [].reverse = 0 := by simp [crcR, crcT, val_nil]
    rw [this]; exact Mul.zero _
  | cons c r ih =>
    intro h
    rw [List.reverse_cons, rowB_snoc] at h
    simp only [Bool.and_eq_true] at h
    rw [List.reverse_cons, crcR_snoc, crcT_snoc _ _ _ _ h.2]
    have h1 := step_mul s p (crcR s p f r.reverse) (dig c) hs hp (crcR_lt s p f hp hf _) (bit_dig h.2).1
    have h2 := (ih h.1).two
    rw [two_xor] at h2
    refine h1.tr ?_
    have e : (2 * crcR s p f r.reverse ^^^ dig c * 2 ^ s) ^^^ (2 * crcT s f r.reverse ^^^ dig c * 2 ^ s) = 2 * crcR s p f r.reverse ^^^ 2 * crcT s f r.reverse := by
      rw [xor4, Nat.xor_self, Nat.xor_zero]
    rw [e]; exact h2
theorem crc_is (s p f : Nat) (hs : 1 ≤ s) (hp : p < 2 ^ s) (hf : f < 2 ^ s) (l : List UInt8) (h : rowB l = true) : Mul (2 ^ s + p) (crcR s p f l ^^^ crcT s f l) := by
  have := crc_mul s p f hs hp hf l.reverse
  rw [List.reverse_reverse] at this
  exact this h
/-- what is below 2^s and differs from the row's number by a multiple is what the register holds -/
theorem crc_uniq (s p f n : Nat) (hs : 1 ≤ s) (hp : p < 2 ^ s) (hf : f < 2 ^ s) (l : List UInt8) (h : rowB l = true) (hn : n < 2 ^ s) (hm : Mul (2 ^ s + p) (n ^^^ crcT s f l)) : n = crcR s p f l := by
  have h1 := crc_is s p f hs hp hf l h
  rw [Nat.xor_comm] at h1
  exact Mul.uniq (by omega) (by rw [Nat.pow_succ]; omega) hn (crcR_lt s p f hp hf l) (hm.tr h1)
end Go.Proofs.YthdffdobkampaaaDoor.Cm

/- The five kinds of sums: how many bits each has, its polynomial, what it starts from and what it is turned by at the end; the sum of a row by a kind; of no program. -/
namespace Go.Proofs.YthdffdobkampaaaDoor.Cm
open Bm

def kS (k : Nat) : Nat := [15, 17, 21, 8, 16].getD k 0
def kP (k : Nat) : Nat := [17817, 92251, 1058969, 47, 4129].getD k 0
def kF (k : Nat) : Nat := [0, 65536, 1048576, 255, 65535].getD k 0
def kE (k : Nat) : Nat := [0, 0, 0, 255, 0].getD k 0
def sumV (k : Nat) (l : List UInt8) : Nat := crcR (kS k) (kP k) (kF k) l ^^^ kE k
theorem kinds_ok (k : Nat) (h : k ≤ 4) : 8 ≤ kS k ∧ kS k ≤ 21 ∧ 1 ≤ kP k ∧ kP k < 2 ^ kS k ∧ kF k < 2 ^ kS k ∧ kE k < 2 ^ kS k ∧ kP k ≤ 1058969 ∧ kF k ≤ 1048576 ∧ kE k ≤ 255 := by
  match k, h with
  | 0, _ => decide
  | 1, _ => decide
  | 2, _ => decide
  | 3, _ => decide
  | 4, _ => decide
theorem kinds_odd (k : Nat) (h : k ≤ 4) : (2 ^ kS k + kP k) % 2 = 1 := by
  match k, h with
  | 0, _ => decide
  | 1, _ => decide
  | 2, _ => decide
  | 3, _ => decide
  | 4, _ => decide
theorem sumV_lt (k : Nat) (h : k ≤ 4) (l : List UInt8) : sumV k l < 2 ^ kS k := by
  obtain ⟨_, _, _, hp, hf, he, _⟩ := kinds_ok k h
  exact lt_xor (crcR_lt _ _ _ hp hf l) he
end Go.Proofs.YthdffdobkampaaaDoor.Cm
