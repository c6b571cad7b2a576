/- How Go's library counts the bits of a number, and that it counts them: plain facts; of no program. -/
import Derived.Test.YtfmjhgggoklaoaaDoorFilMath
namespace Go.Proofs.YtfmjhgggoklaoaaDoor
namespace Bw
theorem and_byte (x m : Nat) : x &&& m = (x % 256 &&& m % 256) + 256 * (x / 256 &&& m / 256) := by
  have h1 : (x &&& m) / 256 = x / 256 &&& m / 256 := by have := Nat.and_div_two_pow (a := x) (b := m) (n := 8); simpa using this
  have h2 : (x &&& m) % 256 = x % 256 &&& m % 256 := by have := Nat.and_mod_two_pow (a := x) (b := m) (n := 8); simpa using this
  omega
/-- a byte so many times -/
def mskN (c : Nat) : Nat → Nat
  | 0 => 0
  | k + 1 => c + 256 * mskN c k
def st1 (m x : Nat) : Nat := (x / 2 &&& m) + (x &&& m)
def st2 (m x : Nat) : Nat := (x / 4 &&& m) + (x &&& m)
def st3 (m x : Nat) : Nat := (x / 16 + x) &&& m
/-- each byte's bits, as bytes -/
def perN : Nat → Nat → Nat
  | 0, _ => 0
  | k + 1, x => popN 8 (x % 256) + 256 * perN k (x / 256)
theorem msk_mod (c k : Nat) (h : c < 256) : mskN c (k + 1) % 256 = c ∧ mskN c (k + 1) / 256 = mskN c k := by rw [mskN]; omega
theorem byte1 : ∀ a, a < 256 → ∀ c, c < 2 → (a / 2 + 128 * c &&& 85) + (a &&& 85) = st1 85 a ∧ st1 85 a < 256 := by decide +kernel
theorem byte2 : ∀ a, a < 256 → ∀ c, c < 4 → (st1 85 a / 4 + 64 * c &&& 51) + (st1 85 a &&& 51) = st2 51 (st1 85 a) ∧ st2 51 (st1 85 a) < 256 := by decide +kernel
theorem byte3 : ∀ a, a < 256 → st2 51 (st1 85 a) % 16 ≤ 4 ∧ st2 51 (st1 85 a) / 16 ≤ 4 := by decide +kernel
theorem byte4 : ∀ a, a < 256 → ∀ c, c < 5 → (st2 51 (st1 85 a) / 16 + st2 51 (st1 85 a) + 16 * c &&& 15) = popN 8 a := by decide +kernel
theorem st1_byte (k x : Nat) : st1 (mskN 85 (k + 1)) x = st1 85 (x % 256) + 256 * st1 (mskN 85 k) (x / 256) := by
  obtain ⟨h1, h2⟩ := msk_mod 85 k (by omega)
  have hb := (byte1 (x % 256) (by omega) (x / 256 % 2) (by omega)).1
  have e1 : x / 2 % 256 = x % 256 / 2 + 128 * (x / 256 % 2) := by omega
  have e2 : x / 2 / 256 = x / 256 / 2 := by omega
  rw [← hb]
  unfold st1
  rw [and_byte (x / 2), and_byte x, h1, h2, e1, e2]
  omega
theorem st2_byte (k x : Nat) : st2 (mskN 51 (k + 1)) (st1 (mskN 85 (k + 1)) x) = st2 51 (st1 85 (x % 256)) + 256 * st2 (mskN 51 k) (st1 (mskN 85 k) (x / 256)) := by
  obtain ⟨h1, h2⟩ := msk_mod 51 k (by omega)
  have hx := st1_byte k x
  have hl := (byte1 (x % 256) (by omega) 0 (by omega)).2
  generalize st1 (mskN 85 k) (x / 256) = B at *
  have hb := (byte2 (x % 256) (by omega) (B % 4) (by omega)).1
  rw [hx, ← hb]
  generalize st1 85 (x % 256) = A at *
  unfold st2
  rw [and_byte ((A + 256 * B) / 4), and_byte (A + 256 * B), h1, h2]
  have e1 : (A + 256 * B) / 4 % 256 = A / 4 + 64 * (B % 4) := by omega
  have e2 : (A + 256 * B) / 4 / 256 = B / 4 := by omega
  have e3 : (A + 256 * B) % 256 = A := by omega
  have e4 : (A + 256 * B) / 256 = B := by omega
  rw [e1, e2, e3, e4]
  omega
theorem st3_byte : ∀ (k x : Nat), x < 256 ^ k → st2 (mskN 51 k) (st1 (mskN 85 k) x) % 16 ≤ 4 ∧ st3 (mskN 15 k) (st2 (mskN 51 k) (st1 (mskN 85 k) x)) = perN k x
  | 0, x, h => by
    have h0 : x = 0 := by simpa using h
    subst h0
    decide
  | k + 1, x, h => by
    obtain ⟨ih1, ih2⟩ := st3_byte k (x / 256) (by rw [Nat.pow_succ] at h; omega)
    obtain ⟨h1, h2⟩ := msk_mod 15 k (by omega)
    have hx := st2_byte k x
    have hl := (byte2 (x % 256) (by omega) 0 (by omega)).2
    obtain ⟨hn1, hn2⟩ := byte3 (x % 256) (by omega)
    generalize st2 (mskN 51 k) (st1 (mskN 85 k) (x / 256)) = B at *
    have hb := byte4 (x % 256) (by omega) (B % 16) (by omega)
    rw [hx, perN, ← ih2, ← hb]
    generalize st2 51 (st1 85 (x % 256)) = A at *
    refine ⟨by omega, ?_⟩
    unfold st3
    have e1 : (A + 256 * B) / 16 + (A + 256 * B) = (A / 16 + A + 16 * (B % 16)) + 256 * (B / 16 + B) := by omega
    rw [e1, and_byte (A / 16 + A + 16 * (B % 16) + 256 * (B / 16 + B)), h1, h2]
    have e2 : (A / 16 + A + 16 * (B % 16) + 256 * (B / 16 + B)) % 256 = A / 16 + A + 16 * (B % 16) := by omega
    have e3 : (A / 16 + A + 16 * (B % 16) + 256 * (B / 16 + B)) / 256 = B / 16 + B := by omega
    rw [e2, e3]
theorem popN_byte (k x : Nat) : popN (k + 8) x = popN 8 (x % 256) + popN k (x / 256) := by
  simp only [popN, Nat.div_div_eq_div_mul]
  have e : x / (2 * 2 * 2 * 2 * 2 * 2 * 2 * 2) = x / 256 := by omega
  rw [e]
  omega
/-- what is left of it: the sums -/
def onesN (x : Nat) : Nat := st3 1085102592571150095 (st2 3689348814741910323 (st1 6148914691236517205 x))
theorem ones_bytes (x : Nat) (h : x < 2 ^ 32) : onesN x = popN 8 (x % 256) + 256 * (popN 8 (x / 256 % 256) + 256 * (popN 8 (x / 65536 % 256) + 256 * popN 8 (x / 16777216 % 256))) := by
  have h1 : mskN 85 8 = 6148914691236517205 := by decide
  have h2 : mskN 51 8 = 3689348814741910323 := by decide
  have h3 : mskN 15 8 = 1085102592571150095 := by decide
  have h4 := (st3_byte 8 x (by omega)).2
  unfold onesN
  rw [← h1, ← h2, ← h3, h4]
  have e0 : x / 256 / 256 / 256 / 256 = 0 := by omega
  have p0 : ∀ k, perN k 0 = 0 := by
    intro k
    induction k with
    | zero => rfl
    | succ k ih => rw [perN]; simp [ih, popN_zero]
  rw [perN, perN, perN, perN, e0, p0]
  have e1 : x / 256 / 256 = x / 65536 := by omega
  have e2 : x / 65536 / 256 = x / 16777216 := by omega
  rw [e1, e2, Nat.mul_zero, Nat.add_zero]
theorem ones_pop (x : Nat) (h : x < 2 ^ 32) : popN 32 x = popN 8 (x % 256) + popN 8 (x / 256 % 256) + popN 8 (x / 65536 % 256) + popN 8 (x / 16777216 % 256) := by
  rw [show 32 = 24 + 8 from rfl, popN_byte 24, show 24 = 16 + 8 from rfl, popN_byte 16, show 16 = 8 + 8 from rfl, popN_byte 8]
  have e1 : x / 256 / 256 = x / 65536 := by omega
  have e2 : x / 65536 / 256 = x / 16777216 := by omega
  have e3 : x / 16777216 % 256 = x / 16777216 := by omega
  rw [e1, e2, e3]
  omega
/-- the three sums -/
theorem ones_sums (x : Nat) (h : x < 2 ^ 32) : ∃ t, t = onesN x ∧ t ≤ 134744072 ∧ t + t / 256 ≤ 136000000 ∧ (t + t / 256 + (t + t / 256) / 65536) ≤ 137000000 ∧ ((t + t / 256 + (t + t / 256) / 65536) + (t + t / 256 + (t + t / 256) / 65536) / 4294967296) % 128 = popN 32 x := by
  refine ⟨_, rfl, ?_⟩
  rw [ones_bytes x h, ones_pop x h]
  have a1 := popN_le 8 (x % 256)
  have a2 := popN_le 8 (x / 256 % 256)
  have a3 := popN_le 8 (x / 65536 % 256)
  have a4 := popN_le 8 (x / 16777216 % 256)
  generalize popN 8 (x % 256) = p0 at *
  generalize popN 8 (x / 256 % 256) = p1 at *
  generalize popN 8 (x / 65536 % 256) = p2 at *
  generalize popN 8 (x / 16777216 % 256) = p3 at *
  have d1 : (p0 + 256 * (p1 + 256 * (p2 + 256 * p3))) / 256 = p1 + 256 * (p2 + 256 * p3) := by omega
  rw [d1]
  have d2 : (p0 + 256 * (p1 + 256 * (p2 + 256 * p3)) + (p1 + 256 * (p2 + 256 * p3))) / 65536 = p2 + p3 + 256 * p3 := by omega
  rw [d2]
  have d3 : (p0 + 256 * (p1 + 256 * (p2 + 256 * p3)) + (p1 + 256 * (p2 + 256 * p3)) + (p2 + p3 + 256 * p3)) / 4294967296 = 0 := by omega
  rw [d3]
  omega
end Bw
end Go.Proofs.YtfmjhgggoklaoaaDoor
