/- The register that takes a row bit by bit: what it holds is the row's number, moved up, less multiples of the polynomial; of no program. -/
import Derived.Test.YtopoogdoepdedaaDoorCrcMath
namespace Go.Proofs.YtopoogdoepdedaaDoor.Cm
open Bm

theorem eq_of_half {a b : Nat} (h1 : a / 2 = b / 2) (h2 : a % 2 = b % 2) : a = b := by omega
theorem two_add (v d : Nat) (hd : d ≤ 1) : 2 * v + d = (2 * v) ^^^ d := by
  apply eq_of_half
  · rw [xor_half]
    have e : d / 2 = 0 := by omega
    rw [e, Nat.xor_zero]
    omega
  · have h := xor_odd (2 * v) d
    have : (2 * v ^^^ d) % 2 = 0 ∨ (2 * v ^^^ d) % 2 = 1 := by omega
    rcases this with h' | h'
    · have : ¬ (2 * v ^^^ d) % 2 = 1 := by omega
      rw [h] at this
      omega
    · have := h.1 h'
      omega
theorem shift_xor (a b k : Nat) : (a ^^^ b) * 2 ^ k = (a * 2 ^ k) ^^^ (b * 2 ^ k) := by
  induction k with
  | zero => simp
  | succ k ih =>
    have e : ∀ x : Nat, x * 2 ^ (k + 1) = 2 * (x * 2 ^ k) := by intro x; rw [Nat.pow_succ, ← Nat.mul_assoc, Nat.mul_comm]
    rw [e, e, e, ih, two_xor]
/-- a number with its bit of place s: the rest, and that bit -/
theorem top_split (r s : Nat) (h : r < 2 ^ (s + 1)) : r = (r % 2 ^ s) ^^^ (r / 2 ^ s * 2 ^ s) := by
  have hq : r / 2 ^ s ≤ 1 := by
    have : r / 2 ^ s < 2 := Nat.div_lt_of_lt_mul (by rw [Nat.pow_succ] at h; omega)
    omega
  have hm : r % 2 ^ s < 2 ^ s := Nat.mod_lt _ (Nat.two_pow_pos s)
  have hd := Nat.div_add_mod r (2 ^ s)
  generalize r % 2 ^ s = m at *
  generalize r / 2 ^ s = q at *
  have hq' : q = 0 ∨ q = 1 := by omega
  rcases hq' with rfl | rfl
  · rw [Nat.zero_mul, Nat.xor_zero]; omega
  · rw [Nat.one_mul]
    have e : m ^^^ 2 ^ s = 2 ^ s + m := by
      have h1 := Nat.two_pow_add_eq_or_of_lt hm 1
      rw [Nat.mul_one] at h1
      rw [h1]
      apply Nat.eq_of_testBit_eq
      intro i
      rw [Nat.testBit_xor, Nat.testBit_or, Nat.testBit_two_pow]
      by_cases hi : s = i
      · subst hi
        rw [Nat.testBit_lt_two_pow hm]; simp
      · simp [hi]
    rw [e]; omega

def crcStep (s p r b : Nat) : Nat := ((2 * r) % 2 ^ s) ^^^ (if r / 2 ^ (s - 1) = b then 0 else p)
def crcR (s p r : Nat) (l : List UInt8) : Nat := l.foldl (fun r c => crcStep s p r (dig c)) r

theorem crcR_snoc (s p r : Nat) (l : List UInt8) (c : UInt8) : crcR s p r (l ++ [c]) = crcStep s p (crcR s p r l) (dig c) := by simp [crcR]
theorem crcR_cons (s p r : Nat) (l : List UInt8) (c : UInt8) : crcR s p r (c :: l) = crcR s p (crcStep s p r (dig c)) l := rfl
theorem crcStep_lt (s p r b : Nat) (hp : p < 2 ^ s) : crcStep s p r b < 2 ^ s := by
  unfold crcStep
  apply lt_xor (Nat.mod_lt _ (Nat.two_pow_pos s))
  have := Nat.two_pow_pos s
  split <;> omega
theorem crcR_lt (s p r : Nat) (hp : p < 2 ^ s) (hr : r < 2 ^ s) (l : List UInt8) : crcR s p r l < 2 ^ s := by
  induction l generalizing r with
  | nil => exact hr
  | cons c l ih => rw [crcR_cons]; exact ih _ (crcStep_lt s p r (dig c) hp)

theorem xor4 (a b c d : Nat) : (a ^^^ b) ^^^ (c ^^^ d) = (a ^^^ c) ^^^ (b ^^^ d) := by
  rw [Nat.xor_assoc, Nat.xor_assoc, xor_lc b c d]
theorem d_lo (s p : Nat) (hp : p < 2 ^ s) : 2 ^ s ^^^ p = 2 ^ s + p := by
  have h := top_split (2 ^ s + p) s (by rw [Nat.pow_succ]; omega)
  have e1 : (2 ^ s + p) % 2 ^ s = p := by rw [Nat.add_mod_left]; exact Nat.mod_eq_of_lt hp
  have e2 : (2 ^ s + p) / 2 ^ s = 1 := by
    rw [Nat.add_div_left _ (Nat.two_pow_pos s), Nat.div_eq_of_lt hp]
  rw [e1, e2, Nat.one_mul, Nat.xor_comm] at h
  exact h.symm

/-- one step: but for a multiple of the polynomial the register is doubled, the bit put in above -/
theorem step_mul (s p r b : Nat) (hs : 1 ≤ s) (hp : p < 2 ^ s) (hr : r < 2 ^ s) (hb : b ≤ 1) : Mul (2 ^ s + p) (crcStep s p r b ^^^ (2 * r ^^^ b * 2 ^ s)) := by
  have hps : 2 ^ s = 2 * 2 ^ (s - 1) := by
    obtain ⟨t, rfl⟩ : ∃ t, s = t + 1 := ⟨s - 1, by omega⟩
    rw [Nat.add_sub_cancel, Nat.pow_succ]; omega
  have h2r : 2 * r < 2 ^ (s + 1) := by rw [Nat.pow_succ]; omega
  have hsp := top_split (2 * r) s h2r
  have hdiv : 2 * r / 2 ^ s = r / 2 ^ (s - 1) := by rw [hps, Nat.mul_div_mul_left _ _ (by omega)]
  rw [hdiv] at hsp
  have hq : r / 2 ^ (s - 1) ≤ 1 := by
    have : r / 2 ^ (s - 1) < 2 := Nat.div_lt_of_lt_mul (by omega)
    omega
  unfold crcStep
  generalize hm : 2 * r % 2 ^ s = m at *
  generalize r / 2 ^ (s - 1) = q at *
  rw [hsp]
  by_cases h : q = b
  · subst h
    rw [if_pos rfl, Nat.xor_zero]
    have : m ^^^ (m ^^^ q * 2 ^ s ^^^ q * 2 ^ s) = 0 := by
      rw [Nat.xor_assoc, Nat.xor_self, Nat.xor_zero, Nat.xor_self]
    rw [this]
    exact Mul.zero _
  · rw [if_neg h]
    have e : m ^^^ p ^^^ (m ^^^ q * 2 ^ s ^^^ b * 2 ^ s) = 2 ^ s + p := by
      rw [← d_lo s p hp]
      have e1 : q * 2 ^ s ^^^ b * 2 ^ s = 2 ^ s := by
        have hqb : (q = 0 ∧ b = 1) ∨ (q = 1 ∧ b = 0) := by omega
        rcases hqb with ⟨rfl, rfl⟩ | ⟨rfl, rfl⟩ <;> simp
      rw [Nat.xor_assoc m (q * 2 ^ s), e1, xor4, Nat.xor_self, Nat.zero_xor, Nat.xor_comm]
    rw [e]
    exact Mul.self _
theorem Mul.tr {d a b c : Nat} (h1 : Mul d (a ^^^ b)) (h2 : Mul d (b ^^^ c)) : Mul d (a ^^^ c) := by
  have := h1.xor h2
  rw [Nat.xor_assoc, ← Nat.xor_assoc b b c, Nat.xor_self, Nat.zero_xor] at this
  exact this

/-- the row's number, moved up, what it starts from turned into its first bits -/
def crcT (s f : Nat) (l : List UInt8) : Nat := val l * 2 ^ s ^^^ f * 2 ^ l.length
theorem crcT_snoc (s f : Nat) (l : List UInt8) (c : UInt8) (hc : bit c = true) : crcT s f (l ++ [c]) = 2 * crcT s f l ^^^ dig c * 2 ^ s := by
  unfold crcT
  rw [val_snoc, two_add _ _ (bit_dig hc).1, shift_xor, List.length_append, List.length_singleton, two_xor]
  have e1 : 2 * val l * 2 ^ s = 2 * (val l * 2 ^ s) := Nat.mul_assoc _ _ _
  have e2 : f * 2 ^ (l.length + 1) = 2 * (f * 2 ^ l.length) := by rw [Nat.pow_succ, ← Nat.mul_assoc, Nat.mul_comm]
  rw [e1, e2, Nat.xor_assoc, Nat.xor_comm (dig c * 2 ^ s), ← Nat.xor_assoc]
theorem crc_mul (s p f : Nat) (hs : 1 ≤ s) (hp : p < 2 ^ s) (hf : f < 2 ^ s) (r : List UInt8) : rowB r.reverse = true → Mul (2 ^ s + p) (crcR s p f r.reverse ^^^ crcT s f r.reverse) := by
  induction r with
  | nil =>
    intro _
    have : crcR s p f [].reverse ^^^ crcT s f [].reverse = 0 := by simp [crcR, crcT, val_nil]
    rw [this]; exact Mul.zero _
  | cons c r ih =>
    intro h
    rw [List.reverse_cons, rowB_snoc] at h
    simp only [Bool.and_eq_true] at h
    rw [List.reverse_cons, crcR_snoc, crcT_snoc _ _ _ _ h.2]
    have h1 := step_mul s p (crcR s p f r.reverse) (dig c) hs hp (crcR_lt s p f hp hf _) (bit_dig h.2).1
    have h2 := (ih h.1).two
    rw [two_xor] at h2
    refine h1.tr ?_
    have e : (2 * crcR s p f r.reverse ^^^ dig c * 2 ^ s) ^^^ (2 * crcT s f r.reverse ^^^ dig c * 2 ^ s) = 2 * crcR s p f r.reverse ^^^ 2 * crcT s f r.reverse := by
      rw [xor4, Nat.xor_self, Nat.xor_zero]
    rw [e]; exact h2
theorem crc_is (s p f : Nat) (hs : 1 ≤ s) (hp : p < 2 ^ s) (hf : f < 2 ^ s) (l : List UInt8) (h : rowB l = true) : Mul (2 ^ s + p) (crcR s p f l ^^^ crcT s f l) := by
  have := crc_mul s p f hs hp hf l.reverse
  rw [List.reverse_reverse] at this
  exact this h
/-- what is below 2^s and differs from the row's number by a multiple is what the register holds -/
theorem crc_uniq (s p f n : Nat) (hs : 1 ≤ s) (hp : p < 2 ^ s) (hf : f < 2 ^ s) (l : List UInt8) (h : rowB l = true) (hn : n < 2 ^ s) (hm : Mul (2 ^ s + p) (n ^^^ crcT s f l)) : n = crcR s p f l := by
  have h1 := crc_is s p f hs hp hf l h
  rw [Nat.xor_comm] at h1
  exact Mul.uniq (by omega) (by rw [Nat.pow_succ]; omega) hn (crcR_lt s p f hp hf l) (hm.tr h1)
end Go.Proofs.YtopoogdoepdedaaDoor.Cm
