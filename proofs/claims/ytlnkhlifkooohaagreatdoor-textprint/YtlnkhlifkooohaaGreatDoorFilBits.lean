/- Go's bit operations on numbers that are not negative: plain facts; of no program. -/
import Derived.WalkKit
import Derived.Laws.BitsLemmas
namespace Go.Proofs.YtlnkhlifkooohaaGreatDoor
open Go.RowKit
namespace Bw
/-- a without the bits of b -/
def andnotN (a b : Nat) : Nat := a ^^^ (a &&& b)
theorem andnot_bit (a b i : Nat) : (andnotN a b).testBit i = (a.testBit i && !b.testBit i) := by
  unfold andnotN
  rw [Nat.testBit_xor, Nat.testBit_and]
  cases a.testBit i <;> cases b.testBit i <;> rfl
theorem wraps_i64 (n : Int) (h0 : 0 ≤ n) (h1 : n < 2 ^ 63) : IntKind.i64.wrap n = n := by rw [IntKind.wrap_i64]; omega
theorem and_i64 (a b : Nat) (ha : a < 2 ^ 62) (hb : b < 2 ^ 62) : bits .and .i64 (a : Int) (b : Int) = ((a &&& b : Nat) : Int) :=
  (bits_nat .i64 62 (by decide) (fun n h0 h1 => wraps_i64 n h0 (by omega)) a b ha hb).1
theorem or_i64 (a b : Nat) (ha : a < 2 ^ 62) (hb : b < 2 ^ 62) : bits .or .i64 (a : Int) (b : Int) = ((a ||| b : Nat) : Int) :=
  (bits_nat .i64 62 (by decide) (fun n h0 h1 => wraps_i64 n h0 (by omega)) a b ha hb).2
theorem xorN_i64 (a b : Nat) (ha : a < 2 ^ 62) (hb : b < 2 ^ 62) : bits .xor .i64 (a : Int) (b : Int) = ((a ^^^ b : Nat) : Int) := by
  have e : IntKind.i64.bits = 64 := rfl
  have ha' : a % 2 ^ 64 = a := Nat.mod_eq_of_lt (by omega)
  have hb' : b % 2 ^ 64 = b := Nat.mod_eq_of_lt (by omega)
  simp only [bits, BitVec.ofInt_natCast, BitVec.toNat_xor, BitVec.toNat_ofNat, e, ha', hb']
  exact wraps_i64 _ (Int.natCast_nonneg _) (by have := Nat.xor_lt_two_pow ha hb; omega)
theorem andnot_le (a b : Nat) : andnotN a b ≤ a := by
  have h : andnotN a b &&& a = andnotN a b := by
    apply Nat.eq_of_testBit_eq
    intro i
    rw [Nat.testBit_and, andnot_bit]
    cases a.testBit i <;> cases b.testBit i <;> rfl
  rw [← h]
  exact Nat.and_le_right
theorem andnot_i64 (a b : Nat) (ha : a < 2 ^ 62) (hb : b < 2 ^ 62) : bits .andNot .i64 (a : Int) (b : Int) = (andnotN a b : Int) := by
  have e : IntKind.i64.bits = 64 := rfl
  have ha' : a % 2 ^ 64 = a := Nat.mod_eq_of_lt (by omega)
  have hb' : b % 2 ^ 64 = b := Nat.mod_eq_of_lt (by omega)
  have key : a &&& (2 ^ 64 - 1 - b) = andnotN a b := by
    apply Nat.eq_of_testBit_eq
    intro i
    rw [Nat.testBit_and, andnot_bit, show 2 ^ 64 - 1 - b = 2 ^ 64 - (b + 1) by omega, Nat.testBit_two_pow_sub_succ (by omega)]
    by_cases hi : i < 64
    · simp [hi]
    · have h0 : a.testBit i = false := Nat.testBit_lt_two_pow (Nat.lt_of_lt_of_le ha (Nat.pow_le_pow_right (by omega) (by omega)))
      simp [h0]
  simp only [bits, BitVec.ofInt_natCast, BitVec.toNat_and, BitVec.toNat_not, BitVec.toNat_ofNat, e, ha', hb']
  rw [key]
  exact wraps_i64 _ (Int.natCast_nonneg _) (by have := andnot_le a b; omega)
theorem andnot_top (k m : Nat) (hm : m < 2 ^ k) : andnotN (2 ^ k - 1) m = 2 ^ k - 1 - m := by
  apply Nat.eq_of_testBit_eq
  intro i
  rw [andnot_bit, show 2 ^ k - 1 - m = 2 ^ k - (m + 1) by omega, Nat.testBit_two_pow_sub_succ hm, Nat.testBit_two_pow_sub_one]
theorem andnot_zero (a b : Nat) : andnotN a b = 0 ↔ a &&& b = a := by
  constructor
  · intro h
    apply Nat.eq_of_testBit_eq
    intro i
    have hi : (andnotN a b).testBit i = false := by rw [h]; exact Nat.zero_testBit i
    rw [andnot_bit] at hi
    rw [Nat.testBit_and]
    revert hi
    cases a.testBit i <;> cases b.testBit i <;> decide
  · intro h
    unfold andnotN
    rw [h, Nat.xor_self]
end Bw
end Go.Proofs.YtlnkhlifkooohaaGreatDoor
