/- What it says of a frame that it is right; of no program. -/
import Derived.Test.YtnhnemmddgofnaaDoorC1
namespace Go.Proofs.YtnhnemmddgofnaaDoor
namespace Bw
open Bm

theorem bitAt_bit (n j : Nat) : bit (bitAt n j) = true := by unfold bitAt; split <;> rfl

theorem bitAt_dig (n j : Nat) : dig (bitAt n j) = n / 2 ^ j % 2 := by
  unfold bitAt
  have := Nat.mod_lt (n / 2 ^ j) (show 0 < 2 by omega)
  split
  · rename_i h; rw [h]; rfl
  · have : n / 2 ^ j % 2 = 0 := by omega
    rw [this]; rfl

theorem bitsHead_row (n size k : Nat) : rowB (bitsHead n size k) = true := by
  unfold rowB bitsHead
  rw [List.all_map, List.all_eq_true]
  intro i _
  exact bitAt_bit n _

theorem val_bitsHead (n size : Nat) : ∀ k, k ≤ size → n < 2 ^ size → val (bitsHead n size k) = n / 2 ^ (size - k)
  | 0, _, h => by simp [bitsHead, val, Nat.div_eq_of_lt h]
  | k + 1, hk, h => by
    rw [bitsHead_succ, val_snoc, val_bitsHead n size k (by omega) h, bitAt_dig]
    have e : size - k = (size - 1 - k) + 1 := by omega
    have e2 : size - (k + 1) = size - 1 - k := by omega
    rw [e, e2, Nat.pow_succ, ← Nat.div_div_eq_div_mul]
    omega

theorem val_row (n size : Nat) (h : n < 2 ^ size) : val (bitsHead n size size) = n := by
  rw [val_bitsHead n size size (Nat.le_refl _) h]; simp

theorem ofL_cons (c : UInt8) (l : List UInt8) : ofL (c :: l) = bitsHead c.toNat 8 8 ++ ofL l := rfl

theorem ofL_row (l : List UInt8) : rowB (ofL l) = true := by
  induction l with
  | nil => rfl
  | cons c l ih => rw [ofL_cons, rowB_append, bitsHead_row, ih]; rfl

theorem ofL_drop (l : List UInt8) : ∀ i, (ofL l).drop (8 * i) = ofL (l.drop i) := by
  induction l with
  | nil => intro i; simp [ofL]
  | cons c l ih =>
    intro i
    cases i with
    | zero => rfl
    | succ i =>
      rw [ofL_cons, List.drop_succ_cons, ← ih i]
      have e : 8 * (i + 1) = (bitsHead c.toNat 8 8).length + 8 * i := by rw [bitsHead_length]; omega
      rw [e, List.drop_length_add_append]
end Bw
end Go.Proofs.YtnhnemmddgofnaaDoor
namespace Go.Proofs.YtnhnemmddgofnaaDoor
namespace Bw
open Bm
theorem list_snoc_ind {p : List UInt8 → Prop} (h0 : p []) (h1 : ∀ l c, p l → p (l ++ [c])) : ∀ l, p l := by
  intro l
  have : ∀ r : List UInt8, p r.reverse := by
    intro r
    induction r with
    | nil => exact h0
    | cons c r ih => rw [List.reverse_cons]; exact h1 _ _ ih
  have := this l.reverse
  rwa [List.reverse_reverse] at this
theorem bitAt_up (v d q : Nat) (hd : d ≤ 1) : bitAt (2 * v + d) (q + 1) = bitAt v q := by
  unfold bitAt
  have e : (2 * v + d) / 2 ^ (q + 1) = v / 2 ^ q := by
    rw [Nat.pow_succ, Nat.mul_comm (2 ^ q) 2, ← Nat.div_div_eq_div_mul]
    congr 1; omega
  rw [e]
theorem bits_val (t : List UInt8) : rowB t = true → bitsHead (val t) t.length t.length = t := by
  refine list_snoc_ind (p := fun t => rowB t = true → bitsHead (val t) t.length t.length = t) (fun _ => rfl) ?_ t
  intro t c ih h
  rw [rowB_snoc] at h
  simp only [Bool.and_eq_true] at h
  have hd := (bit_dig h.2).1
  rw [val_snoc, List.length_append, List.length_singleton, bitsHead_succ]
  have e1 : bitsHead (2 * val t + dig c) (t.length + 1) t.length = bitsHead (val t) t.length t.length := by
    unfold bitsHead
    apply List.map_congr_left
    intro i hi
    have hi' : i < t.length := by simpa using hi
    have : t.length + 1 - 1 - i = (t.length - 1 - i) + 1 := by omega
    rw [this, bitAt_up _ _ _ hd]
  have e2 : bitAt (2 * val t + dig c) (t.length + 1 - 1 - t.length) = c := by
    have : t.length + 1 - 1 - t.length = 0 := by omega
    rw [this]
    unfold bitAt
    rcases (bit_iff c).1 h.2 with hc | hc
    · have : c = 48 := UInt8.toNat_inj.1 (by show c.toNat = 48; omega)
      subst this
      have : dig 48 = 0 := rfl
      rw [this, if_neg (by simp)]
    · have : c = 49 := UInt8.toNat_inj.1 (by show c.toNat = 49; omega)
      subst this
      have : dig 49 = 1 := rfl
      rw [this, if_pos (by simp)]
  rw [e1, e2, ih h.1]
/-- a row of s bits is the row of v if it tells v -/
theorem row_is (t : List UInt8) (v s : Nat) (h : rowB t = true) (hl : t.length = s) (hv : v < 2 ^ s) : t = bitsHead v s s ↔ val t = v := by
  constructor
  · intro e; rw [e, val_row v s hv]
  · intro e; rw [← e, ← hl, bits_val t h]
end Bw
end Go.Proofs.YtnhnemmddgofnaaDoor
namespace Go.Proofs.YtnhnemmddgofnaaDoor.Cm

/-- the product without carries -/
def clm (d : Nat) : Nat → Nat
  | 0 => 0
  | q + 1 => (if (q + 1) % 2 = 1 then d else 0) ^^^ (2 * clm d ((q + 1) / 2))

theorem clm_zero (d : Nat) : clm d 0 = 0 := by rw [clm]
theorem clm_eq (d q : Nat) : clm d q = (if q % 2 = 1 then d else 0) ^^^ (2 * clm d (q / 2)) := by
  cases q with
  | zero => simp [clm_zero]
  | succ q => rw [clm]

theorem two_xor (a b : Nat) : 2 * (a ^^^ b) = (2 * a) ^^^ (2 * b) := by
  apply Nat.eq_of_testBit_eq
  intro i
  cases i with
  | zero => simp
  | succ i => simp [Nat.testBit_succ, Nat.xor_div_two]
theorem xor_half (a b : Nat) : (a ^^^ b) / 2 = a / 2 ^^^ b / 2 := Nat.xor_div_two
theorem xor_odd (a b : Nat) : (a ^^^ b) % 2 = 1 ↔ (a % 2 = 1 ∧ b % 2 = 0) ∨ (a % 2 = 0 ∧ b % 2 = 1) := by
  have h := Nat.testBit_xor a b 0
  rw [Nat.testBit_zero, Nat.testBit_zero, Nat.testBit_zero] at h
  by_cases hp : (a ^^^ b) % 2 = 1 <;> by_cases hq : a % 2 = 1 <;> by_cases hr : b % 2 = 1
  all_goals first
    | (rw [decide_eq_true hp, decide_eq_true hq, decide_eq_true hr] at h; cases h)
    | (rw [decide_eq_true hp, decide_eq_false hq, decide_eq_false hr] at h; cases h)
    | (rw [decide_eq_false hp, decide_eq_true hq, decide_eq_false hr] at h; cases h)
    | (rw [decide_eq_false hp, decide_eq_false hq, decide_eq_true hr] at h; cases h)
    | omega
theorem xor_lc (x y z : Nat) : x ^^^ (y ^^^ z) = y ^^^ (x ^^^ z) := by rw [← Nat.xor_assoc, Nat.xor_comm x y, Nat.xor_assoc]
theorem xor_eq_of {a b : Nat} (h : a ^^^ b = 0) : a = b := by
  have := congrArg (· ^^^ b) h
  simp only [Nat.xor_assoc, Nat.xor_self, Nat.xor_zero, Nat.zero_xor] at this
  exact this

theorem clm_xor (d : Nat) (a : Nat) : ∀ b, clm d (a ^^^ b) = clm d a ^^^ clm d b := by
  induction a using Nat.strongRecOn with
  | ind a ih =>
    intro b
    by_cases h0 : a = 0
    · subst h0; simp [clm_zero]
    · rw [clm_eq d (a ^^^ b), clm_eq d a, clm_eq d b, xor_half, ih (a / 2) (by omega), two_xor]
      have h := xor_odd a b
      have ha : a % 2 = 0 ∨ a % 2 = 1 := by omega
      have hb : b % 2 = 0 ∨ b % 2 = 1 := by omega
      rcases ha with ha | ha <;> rcases hb with hb | hb
      · have : ¬ (a ^^^ b) % 2 = 1 := by rw [h]; omega
        rw [if_neg this, if_neg (by omega), if_neg (by omega)]
        simp
      · have : (a ^^^ b) % 2 = 1 := by rw [h]; omega
        rw [if_pos this, if_neg (by omega), if_pos hb]
        simp only [Nat.zero_xor]
        exact xor_lc _ _ _
      · have : (a ^^^ b) % 2 = 1 := by rw [h]; omega
        rw [if_pos this, if_pos ha, if_neg (by omega)]
        simp [Nat.xor_assoc]
      · have : ¬ (a ^^^ b) % 2 = 1 := by rw [h]; omega
        rw [if_neg this, if_pos ha, if_pos hb]
        simp only [Nat.zero_xor]
        rw [show ∀ x y z : Nat, x ^^^ y ^^^ (x ^^^ z) = y ^^^ z by
          intro x y z
          rw [Nat.xor_comm x y, Nat.xor_assoc, ← Nat.xor_assoc x x, Nat.xor_self, Nat.zero_xor]]
theorem clm_two (d q : Nat) : clm d (2 * q) = 2 * clm d q := by
  rw [clm_eq, if_neg (by omega), Nat.zero_xor, Nat.mul_div_cancel_left _ (by omega)]
theorem clm_one (d : Nat) : clm d 1 = d := by rw [clm_eq]; simp [clm_zero]
theorem clm_pow (d k : Nat) : clm d (2 ^ k) = d * 2 ^ k := by
  induction k with
  | zero => rw [Nat.pow_zero, clm_one, Nat.mul_one]
  | succ k ih => rw [Nat.pow_succ, Nat.mul_comm (2 ^ k) 2, clm_two, ih, Nat.mul_left_comm]

/-- n is a multiple of d -/
def Mul (d n : Nat) : Prop := ∃ q, clm d q = n
theorem Mul.zero (d : Nat) : Mul d 0 := ⟨0, clm_zero d⟩
theorem Mul.self (d : Nat) : Mul d d := ⟨1, clm_one d⟩
theorem Mul.shift (d k : Nat) : Mul d (d * 2 ^ k) := ⟨2 ^ k, clm_pow d k⟩
theorem Mul.xor {d a b : Nat} (ha : Mul d a) (hb : Mul d b) : Mul d (a ^^^ b) := by
  obtain ⟨p, rfl⟩ := ha
  obtain ⟨q, rfl⟩ := hb
  exact ⟨p ^^^ q, clm_xor d p q⟩
theorem Mul.two {d a : Nat} (ha : Mul d a) : Mul d (2 * a) := by
  obtain ⟨p, rfl⟩ := ha
  exact ⟨2 * p, clm_two d p⟩
theorem Mul.half {d a : Nat} (hd : d % 2 = 1) (ha : Mul d (2 * a)) : Mul d a := by
  obtain ⟨q, hq⟩ := ha
  have hev : q % 2 = 0 := by
    by_cases h : q % 2 = 1
    · exfalso
      rw [clm_eq, if_pos h] at hq
      have := (xor_odd d (2 * clm d (q / 2))).2 (.inl ⟨hd, by omega⟩)
      rw [hq] at this
      omega
    · omega
  refine ⟨q / 2, ?_⟩
  have e : q = 2 * (q / 2) := by omega
  rw [e, clm_two] at hq
  omega
theorem Mul.unshift {d a : Nat} (hd : d % 2 = 1) (k : Nat) (ha : Mul d (a * 2 ^ k)) : Mul d a := by
  induction k with
  | zero => simpa using ha
  | succ k ih =>
    apply ih
    apply Mul.half hd
    rw [Nat.pow_succ, ← Nat.mul_assoc, Nat.mul_comm] at ha
    exact ha

theorem lt_xor {a b k : Nat} (ha : a < 2 ^ k) (hb : b < 2 ^ k) : a ^^^ b < 2 ^ k := Nat.xor_lt_two_pow ha hb
/-- the highest bit of a product is the sum of the highest bits -/
theorem clm_top (d s : Nat) (h1 : 2 ^ s ≤ d) (h2 : d < 2 ^ (s + 1)) (q : Nat) : ∀ t, 2 ^ t ≤ q → q < 2 ^ (t + 1) → 2 ^ (s + t) ≤ clm d q ∧ clm d q < 2 ^ (s + t + 1) := by
  induction q using Nat.strongRecOn with
  | ind q ih =>
    intro t ht1 ht2
    cases t with
    | zero =>
      have : q = 1 := by simp at ht1 ht2; omega
      subst this
      rw [clm_one]
      exact ⟨h1, h2⟩
    | succ t =>
      have hp : 2 ^ (t + 1) = 2 * 2 ^ t := by rw [Nat.pow_succ]; omega
      have hp2 : 2 ^ (t + 1 + 1) = 2 * 2 ^ (t + 1) := by rw [Nat.pow_succ]; omega
      have hq := Nat.two_pow_pos t
      obtain ⟨i1, i2⟩ := ih (q / 2) (by omega) t (by omega) (by omega)
      rw [clm_eq]
      have e1 : 2 ^ (s + (t + 1)) = 2 * 2 ^ (s + t) := by rw [← Nat.add_assoc, Nat.pow_succ]; omega
      have e2 : 2 ^ (s + (t + 1) + 1) = 2 * (2 * 2 ^ (s + t)) := by rw [Nat.pow_succ, e1]; omega
      have e3 : 2 ^ (s + t + 1) = 2 * 2 ^ (s + t) := by rw [Nat.pow_succ]; omega
      have hlow : (if q % 2 = 1 then d else 0) < 2 ^ (s + (t + 1)) := by
        have : 2 ^ (s + 1) ≤ 2 ^ (s + (t + 1)) := Nat.pow_le_pow_right (by omega) (by omega)
        have := Nat.two_pow_pos (s + (t + 1))
        split <;> omega
      generalize (if q % 2 = 1 then d else 0) = x at hlow
      have hhi : 2 * clm d (q / 2) = 2 ^ (s + (t + 1)) + (2 * clm d (q / 2) - 2 ^ (s + (t + 1))) := by omega
      have hb1 : (2 * clm d (q / 2)).testBit (s + (t + 1)) = true := by
        apply Nat.testBit_of_two_pow_le_and_two_pow_add_one_gt
        · omega
        · omega
      have hb0 : x.testBit (s + (t + 1)) = false := Nat.testBit_lt_two_pow hlow
      refine ⟨Nat.ge_two_pow_of_testBit (by rw [Nat.testBit_xor, hb0, hb1]; rfl), ?_⟩
      exact lt_xor (by omega) (by omega)
theorem Mul.small {d s n : Nat} (h1 : 2 ^ s ≤ d) (h2 : d < 2 ^ (s + 1)) (hn : n < 2 ^ s) (h : Mul d n) : n = 0 := by
  obtain ⟨q, rfl⟩ := h
  by_cases h0 : q = 0
  · subst h0; exact clm_zero d
  · exfalso
    have h3 := (clm_top d s h1 h2 q (Nat.log2 q) (Nat.log2_self_le h0) Nat.lt_log2_self).1
    have : 2 ^ s ≤ 2 ^ (s + Nat.log2 q) := Nat.pow_le_pow_right (by omega) (by omega)
    omega
theorem Mul.uniq {d s a b : Nat} (h1 : 2 ^ s ≤ d) (h2 : d < 2 ^ (s + 1)) (ha : a < 2 ^ s) (hb : b < 2 ^ s) (h : Mul d (a ^^^ b)) : a = b := by
  have := Mul.small h1 h2 (lt_xor ha hb) h
  exact xor_eq_of this
end Go.Proofs.YtnhnemmddgofnaaDoor.Cm
namespace Go.Proofs.YtnhnemmddgofnaaDoor.Cm
open Bm

theorem eq_of_half {a b : Nat} (h1 : a / 2 = b / 2) (h2 : a % 2 = b % 2) : a = b := by omega
theorem two_add (v d : Nat) (hd : d ≤ 1) : 2 * v + d = (2 * v) ^^^ d := by
  apply eq_of_half
  · rw [xor_half]
    have e : d / 2 = 0 := by omega
    rw [e, Nat.xor_zero]
    omega
  · have h := xor_odd (2 * v) d
    have : (2 * v ^^^ d) % 2 = 0 ∨ (2 * v ^^^ d) % 2 = 1 := by omega
    rcases this with h' | h'
    · have : ¬ (2 * v ^^^ d) % 2 = 1 := by omega
      rw [h] at this
      omega
    · have := h.1 h'
      omega
theorem shift_xor (a b k : Nat) : (a ^^^ b) * 2 ^ k = (a * 2 ^ k) ^^^ (b * 2 ^ k) := by
  induction k with
  | zero => simp
  | succ k ih =>
    have e : ∀ x : Nat, x * 2 ^ (k + 1) = 2 * (x * 2 ^ k) := by intro x; rw [Nat.pow_succ, ← Nat.mul_assoc, Nat.mul_comm]
    rw [e, e, e, ih, two_xor]
/-- a number with its bit of place s: the rest, and that bit -/
theorem top_split (r s : Nat) (h : r < 2 ^ (s + 1)) : r = (r % 2 ^ s) ^^^ (r / 2 ^ s * 2 ^ s) := by
  have hq : r / 2 ^ s ≤ 1 := by
    have : r / 2 ^ s < 2 := Nat.div_lt_of_lt_mul (by rw [Nat.pow_succ] at h; omega)
    omega
  have hm : r % 2 ^ s < 2 ^ s := Nat.mod_lt _ (Nat.two_pow_pos s)
  have hd := Nat.div_add_mod r (2 ^ s)
  generalize r % 2 ^ s = m at *
  generalize r / 2 ^ s = q at *
  have hq' : q = 0 ∨ q = 1 := by omega
  rcases hq' with rfl | rfl
  · rw [Nat.zero_mul, Nat.xor_zero]; omega
  · rw [Nat.one_mul]
    have e : m ^^^ 2 ^ s = 2 ^ s + m := by
      have h1 := Nat.two_pow_add_eq_or_of_lt hm 1
      rw [Nat.mul_one] at h1
      rw [h1]
      apply Nat.eq_of_testBit_eq
      intro i
      rw [Nat.testBit_xor, Nat.testBit_or, Nat.testBit_two_pow]
      by_cases hi : s = i
      · subst hi
        rw [Nat.testBit_lt_two_pow hm]; simp
      · simp [hi]
    rw [e]; omega

def crcStep (s p r b : Nat) : Nat := ((2 * r) % 2 ^ s) ^^^ (if r / 2 ^ (s - 1) = b then 0 else p)
def crcR (s p r : Nat) (l : List UInt8) : Nat := l.foldl (fun r c => crcStep s p r (dig c)) r

theorem crcR_snoc (s p r : Nat) (l : List UInt8) (c : UInt8) : crcR s p r (l ++ [c]) = crcStep s p (crcR s p r l) (dig c) := by simp [crcR]
theorem crcR_cons (s p r : Nat) (l : List UInt8) (c : UInt8) : crcR s p r (c :: l) = crcR s p (crcStep s p r (dig c)) l := rfl
theorem crcStep_lt (s p r b : Nat) (hp : p < 2 ^ s) : crcStep s p r b < 2 ^ s := by
  unfold crcStep
  apply lt_xor (Nat.mod_lt _ (Nat.two_pow_pos s))
  have := Nat.two_pow_pos s
  split <;> omega
theorem crcR_lt (s p r : Nat) (hp : p < 2 ^ s) (hr : r < 2 ^ s) (l : List UInt8) : crcR s p r l < 2 ^ s := by
  induction l generalizing r with
  | nil => exact hr
  | cons c l ih => rw [crcR_cons]; exact ih _ (crcStep_lt s p r (dig c) hp)

theorem xor4 (a b c d : Nat) : (a ^^^ b) ^^^ (c ^^^ d) = (a ^^^ c) ^^^ (b ^^^ d) := by
  rw [Nat.xor_assoc, Nat.xor_assoc, xor_lc b c d]
theorem d_lo (s p : Nat) (hp : p < 2 ^ s) : 2 ^ s ^^^ p = 2 ^ s + p := by
  have h := top_split (2 ^ s + p) s (by rw [Nat.pow_succ]; omega)
  have e1 : (2 ^ s + p) % 2 ^ s = p := by rw [Nat.add_mod_left]; exact Nat.mod_eq_of_lt hp
  have e2 : (2 ^ s + p) / 2 ^ s = 1 := by
    rw [Nat.add_div_left _ (Nat.two_pow_pos s), Nat.div_eq_of_lt hp]
  rw [e1, e2, Nat.one_mul, Nat.xor_comm] at h
  exact h.symm

/-- one step: but for a multiple of the polynomial the register is doubled, the bit put in above -/
theorem step_mul (s p r b : Nat) (hs : 1 ≤ s) (hp : p < 2 ^ s) (hr : r < 2 ^ s) (hb : b ≤ 1) : Mul (2 ^ s + p) (crcStep s p r b ^^^ (2 * r ^^^ b * 2 ^ s)) := by
  have hps : 2 ^ s = 2 * 2 ^ (s - 1) := by
    obtain ⟨t, rfl⟩ : ∃ t, s = t + 1 := ⟨s - 1, by omega⟩
    rw [Nat.add_sub_cancel, Nat.pow_succ]; omega
  have h2r : 2 * r < 2 ^ (s + 1) := by rw [Nat.pow_succ]; omega
  have hsp := top_split (2 * r) s h2r
  have hdiv : 2 * r / 2 ^ s = r / 2 ^ (s - 1) := by rw [hps, Nat.mul_div_mul_left _ _ (by omega)]
  rw [hdiv] at hsp
  have hq : r / 2 ^ (s - 1) ≤ 1 := by
    have : r / 2 ^ (s - 1) < 2 := Nat.div_lt_of_lt_mul (by omega)
    omega
  unfold crcStep
  generalize hm : 2 * r % 2 ^ s = m at *
  generalize r / 2 ^ (s - 1) = q at *
  rw [hsp]
  by_cases h : q = b
  · subst h
    rw [if_pos rfl, Nat.xor_zero]
    have : m ^^^ (m ^^^ q * 2 ^ s ^^^ q * 2 ^ s) = 0 := by
      rw [Nat.xor_assoc, Nat.xor_self, Nat.xor_zero, Nat.xor_self]
    rw [this]
    exact Mul.zero _
  · rw [if_neg h]
    have e : m ^^^ p ^^^ (m ^^^ q * 2 ^ s ^^^ b * 2 ^ s) = 2 ^ s + p := by
      rw [← d_lo s p hp]
      have e1 : q * 2 ^ s ^^^ b * 2 ^ s = 2 ^ s := by
        have hqb : (q = 0 ∧ b = 1) ∨ (q = 1 ∧ b = 0) := by omega
        rcases hqb with ⟨rfl, rfl⟩ | ⟨rfl, rfl⟩ <;> simp
      rw [Nat.xor_assoc m (q * 2 ^ s), e1, xor4, Nat.xor_self, Nat.zero_xor, Nat.xor_comm]
    rw [e]
    exact Mul.self _
theorem Mul.tr {d a b c : Nat} (h1 : Mul d (a ^^^ b)) (h2 : Mul d (b ^^^ c)) : Mul d (a ^^^ c) := by
  have := h1.xor h2
  rw [Nat.xor_assoc, ← Nat.xor_assoc b b c, Nat.xor_self, Nat.zero_xor] at this
  exact this

/-- the row's number, moved up, what it starts from turned into its first bits -/
def crcT (s f : Nat) (l : List UInt8) : Nat := val l * 2 ^ s ^^^ f * 2 ^ l.length
theorem crcT_snoc (s f : Nat) (l : List UInt8) (c : UInt8) (hc : bit c = true) : crcT s f (l ++ [c]) = 2 * crcT s f l ^^^ dig c * 2 ^ s := by
  unfold crcT
  rw [val_snoc, two_add _ _ (bit_dig hc).1, shift_xor, List.length_append, List.length_singleton, two_xor]
  have e1 : 2 * val l * 2 ^ s = 2 * (val l * 2 ^ s) := Nat.mul_assoc _ _ _
  have e2 : f * 2 ^ (l.length + 1) = 2 * (f * 2 ^ l.length) := by rw [Nat.pow_succ, ← Nat.mul_assoc, Nat.mul_comm]
  rw [e1, e2, Nat.xor_assoc, Nat.xor_comm (dig c * 2 ^ s), ← Nat.xor_assoc]
theorem crc_mul (s p f : Nat) (hs : 1 ≤ s) (hp : p < 2 ^ s) (hf : f < 2 ^ s) (r : List UInt8) : rowB r.reverse = true → Mul (2 ^ s + p) (crcR s p f r.reverse ^^^ crcT s f r.reverse) := by
  induction r with
  | nil =>
    intro _
    have : crcR s p f [].reverse ^^^ crcT s f [].reverse = 0 := by simp [crcR, crcT, val_nil]
    rw [this]; exact Mul.zero _
  | cons c r ih =>
    intro h
    rw [List.reverse_cons, rowB_snoc] at h
    simp only [Bool.and_eq_true] at h
    rw [List.reverse_cons, crcR_snoc, crcT_snoc _ _ _ _ h.2]
    have h1 := step_mul s p (crcR s p f r.reverse) (dig c) hs hp (crcR_lt s p f hp hf _) (bit_dig h.2).1
    have h2 := (ih h.1).two
    rw [two_xor] at h2
    refine h1.tr ?_
    have e : (2 * crcR s p f r.reverse ^^^ dig c * 2 ^ s) ^^^ (2 * crcT s f r.reverse ^^^ dig c * 2 ^ s) = 2 * crcR s p f r.reverse ^^^ 2 * crcT s f r.reverse := by
      rw [xor4, Nat.xor_self, Nat.xor_zero]
    rw [e]; exact h2
theorem crc_is (s p f : Nat) (hs : 1 ≤ s) (hp : p < 2 ^ s) (hf : f < 2 ^ s) (l : List UInt8) (h : rowB l = true) : Mul (2 ^ s + p) (crcR s p f l ^^^ crcT s f l) := by
  have := crc_mul s p f hs hp hf l.reverse
  rw [List.reverse_reverse] at this
  exact this h
/-- what is below 2^s and differs from the row's number by a multiple is what the register holds -/
theorem crc_uniq (s p f n : Nat) (hs : 1 ≤ s) (hp : p < 2 ^ s) (hf : f < 2 ^ s) (l : List UInt8) (h : rowB l = true) (hn : n < 2 ^ s) (hm : Mul (2 ^ s + p) (n ^^^ crcT s f l)) : n = crcR s p f l := by
  have h1 := crc_is s p f hs hp hf l h
  rw [Nat.xor_comm] at h1
  exact Mul.uniq (by omega) (by rw [Nat.pow_succ]; omega) hn (crcR_lt s p f hp hf l) (hm.tr h1)
end Go.Proofs.YtnhnemmddgofnaaDoor.Cm
namespace Go.Proofs.YtnhnemmddgofnaaDoor.Cm
open Bm

def kS (k : Nat) : Nat := [15, 17, 21, 8, 16].getD k 0
def kP (k : Nat) : Nat := [17817, 92251, 1058969, 47, 4129].getD k 0
def kF (k : Nat) : Nat := [0, 65536, 1048576, 255, 65535].getD k 0
def kE (k : Nat) : Nat := [0, 0, 0, 255, 0].getD k 0
def sumV (k : Nat) (l : List UInt8) : Nat := crcR (kS k) (kP k) (kF k) l ^^^ kE k
theorem kinds_ok (k : Nat) (h : k ≤ 4) : 8 ≤ kS k ∧ kS k ≤ 21 ∧ 1 ≤ kP k ∧ kP k < 2 ^ kS k ∧ kF k < 2 ^ kS k ∧ kE k < 2 ^ kS k ∧ kP k ≤ 1058969 ∧ kF k ≤ 1048576 ∧ kE k ≤ 255 := by
  match k, h with
  | 0, _ => decide
  | 1, _ => decide
  | 2, _ => decide
  | 3, _ => decide
  | 4, _ => decide
theorem kinds_odd (k : Nat) (h : k ≤ 4) : (2 ^ kS k + kP k) % 2 = 1 := by
  match k, h with
  | 0, _ => decide
  | 1, _ => decide
  | 2, _ => decide
  | 3, _ => decide
  | 4, _ => decide
theorem sumV_lt (k : Nat) (h : k ≤ 4) (l : List UInt8) : sumV k l < 2 ^ kS k := by
  obtain ⟨_, _, _, hp, hf, he, _⟩ := kinds_ok k h
  exact lt_xor (crcR_lt _ _ _ hp hf l) he
end Go.Proofs.YtnhnemmddgofnaaDoor.Cm
namespace Go.Proofs.YtnhnemmddgofnaaDoor
namespace Bw
open Bm Cm
def sumL (k : Nat) (l : List UInt8) : List UInt8 := bitsHead (sumV k l) (kS k) (kS k)
theorem sumL_row (k : Nat) (l : List UInt8) : rowB (sumL k l) = true := bitsHead_row _ _ _
theorem sumL_len (k : Nat) (l : List UInt8) : (sumL k l).length = kS k := bitsHead_length _ _ _
theorem sumL_val (k : Nat) (hk : k ≤ 4) (l : List UInt8) : val (sumL k l) = sumV k l := val_row _ _ (sumV_lt k hk l)
end Bw
end Go.Proofs.YtnhnemmddgofnaaDoor
namespace Go.Proofs.YtnhnemmddgofnaaDoor.Bm

/-- the other bit -/
def otb (c : UInt8) : UInt8 := if c = 48 then 49 else 48
/-- the run under way: its bit and its length -/
def addR (p : UInt8 × Nat) (c : UInt8) : UInt8 × Nat := if c = p.1 then (c, p.2 + 1) else (c, 1)
def endR (l : List UInt8) : UInt8 × Nat := l.foldl addR (0, 0)
def putS (o : List UInt8) (c : UInt8) : List UInt8 := if (endR (o ++ [c])).2 = 5 then o ++ [c] ++ [otb c] else o ++ [c]
def putF (l : List UInt8) : List UInt8 := l.foldl putS []

theorem otb_bit (c : UInt8) : bit (otb c) = true := by unfold otb; split <;> rfl
theorem otb_ne {c : UInt8} (h : bit c = true) : otb c ≠ c := by
  have h' := (bit_iff c).1 h
  unfold otb
  split
  · rename_i e; subst e; decide
  · rename_i e; exact fun e' => e e'.symm
theorem otb_otb {c : UInt8} (h : bit c = true) : otb (otb c) = c := by
  rcases (bit_iff c).1 h with h | h
  · have : c = 48 := UInt8.toNat_inj.1 (by show c.toNat = 48; omega)
    subst this; rfl
  · have : c = 49 := UInt8.toNat_inj.1 (by show c.toNat = 49; omega)
    subst this; rfl
theorem otb_val {c : UInt8} (h : bit c = true) : ((otb c).toNat : Int) = 97 - (c.toNat : Int) := by
  rcases (bit_iff c).1 h with h | h
  · have : c = 48 := UInt8.toNat_inj.1 (by show c.toNat = 48; omega)
    subst this; rfl
  · have : c = 49 := UInt8.toNat_inj.1 (by show c.toNat = 49; omega)
    subst this; rfl

theorem endR_snoc (l : List UInt8) (c : UInt8) : endR (l ++ [c]) = addR (endR l) c := by simp [endR]
theorem addR_1 (p : UInt8 × Nat) (c : UInt8) : (addR p c).1 = c := by unfold addR; split <;> rfl
theorem addR_pos (p : UInt8 × Nat) (c : UInt8) : 1 ≤ (addR p c).2 ∧ (addR p c).2 ≤ p.2 + 1 := by unfold addR; split <;> simp
theorem addR_same (p : UInt8 × Nat) : addR p p.1 = (p.1, p.2 + 1) := by unfold addR; rw [if_pos rfl]
theorem addR_other {p : UInt8 × Nat} {c : UInt8} (h : c ≠ p.1) : addR p c = (c, 1) := by unfold addR; rw [if_neg h]

theorem putF_snoc (l : List UInt8) (c : UInt8) : putF (l ++ [c]) = putS (putF l) c := by simp [putF]
theorem putF_nil : putF [] = [] := rfl

theorem snocInd {p : List UInt8 → Prop} (h0 : p []) (h1 : ∀ l c, p l → p (l ++ [c])) (l : List UInt8) : p l := by
  have : ∀ r : List UInt8, p r.reverse := by
    intro r
    induction r with
    | nil => exact h0
    | cons c r ih => rw [List.reverse_cons]; exact h1 _ _ ih
  have := this l.reverse
  rwa [List.reverse_reverse] at this

theorem endR_tail (l : List UInt8) : ∃ t, l = t ++ List.replicate (endR l).2 (endR l).1 := by
  induction l using snocInd with
  | h0 => exact ⟨[], rfl⟩
  | h1 l c ih =>
    obtain ⟨t, ht⟩ := ih
    rw [endR_snoc]
    by_cases h : c = (endR l).1
    · subst h
      rw [addR_same]
      refine ⟨t, ?_⟩
      simp only
      rw [List.replicate_succ', ← List.append_assoc, ← ht]
    · rw [addR_other h]
      exact ⟨l, rfl⟩
theorem endR_le (l : List UInt8) : (endR l).2 ≤ l.length := by
  obtain ⟨t, ht⟩ := endR_tail l
  have := congrArg List.length ht
  rw [List.length_append, List.length_replicate] at this
  omega
theorem endR_pos {l : List UInt8} (h : l ≠ []) : 1 ≤ (endR l).2 := by
  obtain ⟨a, c, rfl⟩ : ∃ a c, l = a ++ [c] := ⟨l.dropLast, l.getLast h, (List.dropLast_concat_getLast h).symm⟩
  rw [endR_snoc]; exact (addR_pos _ _).1
theorem endR_rep (t : List UInt8) (c : UInt8) (k : Nat) : k ≤ (endR (t ++ List.replicate k c)).2 := by
  induction k with
  | zero => omega
  | succ k ih =>
    rw [List.replicate_succ', ← List.append_assoc, endR_snoc]
    cases k with
    | zero => exact (addR_pos _ _).1
    | succ k =>
      have e1 : (endR (t ++ List.replicate (k + 1) c)).1 = c := by
        rw [List.replicate_succ', ← List.append_assoc, endR_snoc, addR_1]
      have e2 := addR_same (endR (t ++ List.replicate (k + 1) c))
      rw [e1] at e2
      rw [e2]
      show k + 1 + 1 ≤ _ + 1
      omega

/-- what the document's answer looks at: the last five are as often the last one as they are many -/
theorem five_iff (l : List UInt8) (h : (endR l).2 ≤ 5) (h5 : 5 ≤ l.length) (c : UInt8) (hc : l.getD (l.length - 1) 0 = c) : (l.drop (l.length - 5)).count c = 5 ↔ (endR l).2 = 5 := by
  have hlen : (l.drop (l.length - 5)).length = 5 := by rw [List.length_drop]; omega
  constructor
  · intro hcnt
    have hall : ∀ x ∈ l.drop (l.length - 5), c = x := List.count_eq_length.1 (by rw [hcnt, hlen])
    have hrep : l.drop (l.length - 5) = List.replicate 5 c := List.eq_replicate_iff.2 ⟨hlen, fun x hx => (hall x hx).symm⟩
    have hl : l = l.take (l.length - 5) ++ List.replicate 5 c := by rw [← hrep, List.take_append_drop]
    have := endR_rep (l.take (l.length - 5)) c 5
    rw [← hl] at this
    omega
  · intro h5'
    obtain ⟨t, ht⟩ := endR_tail l
    rw [h5'] at ht
    generalize (endR l).1 = d at ht
    have hd : d = c := by
      rw [← hc, ht]
      simp [List.getD]
    subst hd
    rw [ht]
    simp

theorem putS_keep (o : List UInt8) (c : UInt8) (h : bit c = true) (h4 : (endR o).2 ≤ 4) : (endR (putS o c)).2 ≤ 4 := by
  unfold putS
  have h1 := addR_pos (endR o) c
  have hs := endR_snoc o c
  by_cases h5 : (endR (o ++ [c])).2 = 5
  · rw [if_pos h5, endR_snoc, endR_snoc]
    have : otb c ≠ (addR (endR o) c).1 := by rw [addR_1]; exact otb_ne h
    rw [addR_other this]; simp
  · rw [if_neg h5]; rw [hs] at h5 ⊢; omega
theorem putF_keep (l : List UInt8) (h : rowB l = true) : (endR (putF l)).2 ≤ 4 := by
  induction l using snocInd with
  | h0 => decide
  | h1 l c ih =>
    rw [rowB_snoc] at h
    simp only [Bool.and_eq_true] at h
    rw [putF_snoc]
    exact putS_keep _ _ h.2 (ih h.1)
theorem putS_len (o : List UInt8) (c : UInt8) : (putS o c).length ≤ o.length + 2 ∧ o.length + 1 ≤ (putS o c).length := by
  unfold putS; split <;> simp
theorem putF_len2 (l : List UInt8) : (putF l).length ≤ 2 * l.length := by
  induction l using snocInd with
  | h0 => decide
  | h1 l c ih =>
    rw [putF_snoc, List.length_append]
    have := (putS_len (putF l) c).1
    simp only [List.length_singleton]
    omega
theorem putS_row (o : List UInt8) (c : UInt8) (h : bit c = true) (ho : rowB o = true) : rowB (putS o c) = true := by
  unfold putS
  split
  · rw [rowB_snoc, rowB_snoc, ho, h, otb_bit]; rfl
  · rw [rowB_snoc, ho, h]; rfl
theorem putF_row (l : List UInt8) (h : rowB l = true) : rowB (putF l) = true := by
  induction l using snocInd with
  | h0 => rfl
  | h1 l c ih =>
    rw [rowB_snoc] at h
    simp only [Bool.and_eq_true] at h
    rw [putF_snoc]
    exact putS_row _ _ h.2 (ih h.1)

/-- how many bits there are at most -/
theorem putF_most (l : List UInt8) (h : rowB l = true) : ∃ k, (putF l).length = l.length + k ∧ 4 * k + (endR (putF l)).2 ≤ l.length := by
  induction l using snocInd with
  | h0 => exact ⟨0, rfl, by decide⟩
  | h1 l c ih =>
    rw [rowB_snoc] at h
    simp only [Bool.and_eq_true] at h
    obtain ⟨k, h1, h2⟩ := ih h.1
    have h4 := putF_keep l h.1
    rw [putF_snoc]
    unfold putS
    have hs := endR_snoc (putF l) c
    have ha := addR_pos (endR (putF l)) c
    by_cases h5 : (endR (putF l ++ [c])).2 = 5
    · rw [if_pos h5]
      refine ⟨k + 1, by simp only [List.length_append, List.length_singleton]; omega, ?_⟩
      rw [endR_snoc, endR_snoc]
      have hne : otb c ≠ (addR (endR (putF l)) c).1 := by rw [addR_1]; exact otb_ne h.2
      rw [addR_other hne]
      rw [hs] at h5
      simp only [List.length_append, List.length_singleton]
      omega
    · rw [if_neg h5]
      refine ⟨k, by simp only [List.length_append, List.length_singleton]; omega, ?_⟩
      rw [hs]
      simp only [List.length_append, List.length_singleton]
      omega

/-- a piece in front of what is put in is a piece in front of the whole -/
theorem putF_append (a b : List UInt8) : ∃ t, putF (a ++ b) = putF a ++ t := by
  induction b using snocInd with
  | h0 => exact ⟨[], by simp⟩
  | h1 b c ih =>
    obtain ⟨t, ht⟩ := ih
    rw [← List.append_assoc, putF_snoc, ht]
    unfold putS
    split
    · exact ⟨t ++ [c] ++ [otb c], by simp only [List.append_assoc]⟩
    · exact ⟨t ++ [c], by simp only [List.append_assoc]⟩

/-- no part of what Put made that starts where it starts ends in six alike -/
theorem putF_ends (l : List UInt8) (h : rowB l = true) : ∀ k, (endR ((putF l).take k)).2 ≤ 5 := by
  induction l using snocInd with
  | h0 => intro k; rw [putF_nil, List.take_nil]; decide
  | h1 l c ih =>
    rw [rowB_snoc] at h
    simp only [Bool.and_eq_true] at h
    intro k
    have h4 := putF_keep l h.1
    have hk := ih h.1 k
    rw [putF_snoc]
    have ha := addR_pos (endR (putF l)) c
    have hs := endR_snoc (putF l) c
    have key : ∀ j, (endR ((putF l ++ [c]).take j)).2 ≤ 5 := by
      intro j
      by_cases hj : j ≤ (putF l).length
      · rw [List.take_append_of_le_length hj]; exact ih h.1 j
      · rw [List.take_of_length_le (by simp; omega), hs]; omega
    unfold putS
    split
    · by_cases hj : k ≤ (putF l ++ [c]).length
      · rw [List.take_append_of_le_length hj]; exact key k
      · rw [List.take_of_length_le (by simp at hj ⊢; omega), endR_snoc, endR_snoc]
        have hne : otb c ≠ (addR (endR (putF l)) c).1 := by rw [addR_1]; exact otb_ne h.2
        rw [addR_other hne]; simp
    · exact key k

/-- what is put into a row that is turned is turned -/
theorem endR_turn (l : List UInt8) (h : rowB l = true) : (endR (l.map otb)).2 = (endR l).2 ∧ (l ≠ [] → (endR (l.map otb)).1 = otb (endR l).1 ∧ bit (endR l).1 = true) := by
  induction l using snocInd with
  | h0 => exact ⟨rfl, fun h => absurd rfl h⟩
  | h1 l c ih =>
    rw [rowB_snoc] at h
    simp only [Bool.and_eq_true] at h
    obtain ⟨g1, g2⟩ := ih h.1
    rw [List.map_append, List.map_cons, List.map_nil, endR_snoc, endR_snoc]
    refine ⟨?_, fun _ => by rw [addR_1, addR_1]; exact ⟨rfl, h.2⟩⟩
    by_cases hl : l = []
    · subst hl
      have e1 : c ≠ (endR []).1 := fun e => by rw [e] at h; exact absurd h.2 (by decide)
      have e2 : otb c ≠ (endR (List.map otb [])).1 := fun e => by have := otb_bit c; rw [e] at this; exact absurd this (by decide)
      rw [addR_other e1, addR_other e2]
    · obtain ⟨g3, g4⟩ := g2 hl
      by_cases hc : c = (endR l).1
      · have e1 : otb c = (endR (l.map otb)).1 := by rw [g3, hc]
        unfold addR
        rw [if_pos hc, if_pos e1]
        simp only [g1]
      · have e1 : otb c ≠ (endR (l.map otb)).1 := by
          rw [g3]
          intro e
          have := congrArg otb e
          rw [otb_otb h.2, otb_otb g4] at this
          exact hc this
        rw [addR_other hc, addR_other e1]
theorem putF_turn (l : List UInt8) (h : rowB l = true) : putF (l.map otb) = (putF l).map otb := by
  induction l using snocInd with
  | h0 => rfl
  | h1 l c ih =>
    rw [rowB_snoc] at h
    simp only [Bool.and_eq_true] at h
    rw [List.map_append, List.map_cons, List.map_nil, putF_snoc, putF_snoc, ih h.1]
    unfold putS
    have hr : rowB (putF l ++ [c]) = true := by rw [rowB_snoc, putF_row l h.1, h.2]; rfl
    have e := (endR_turn _ hr).1
    rw [List.map_append, List.map_cons, List.map_nil] at e
    rw [e]
    split
    · simp
    · simp

/-- the same, told by the first of the five -/
theorem five_iff' (l : List UInt8) (h : (endR l).2 ≤ 5) (h5 : 5 ≤ l.length) (c : UInt8) (hc : l.getD (l.length - 5) 0 = c) : (l.drop (l.length - 5)).count c = 5 ↔ (endR l).2 = 5 := by
  have hlen : (l.drop (l.length - 5)).length = 5 := by rw [List.length_drop]; omega
  constructor
  · intro hcnt
    have hall : ∀ x ∈ l.drop (l.length - 5), c = x := List.count_eq_length.1 (by rw [hcnt, hlen])
    have hrep : l.drop (l.length - 5) = List.replicate 5 c := List.eq_replicate_iff.2 ⟨hlen, fun x hx => (hall x hx).symm⟩
    have hl : l = l.take (l.length - 5) ++ List.replicate 5 c := by rw [← hrep, List.take_append_drop]
    have := endR_rep (l.take (l.length - 5)) c 5
    rw [← hl] at this
    omega
  · intro h5'
    obtain ⟨t, ht⟩ := endR_tail l
    rw [h5'] at ht
    generalize (endR l).1 = d at ht
    have hd : d = c := by
      rw [← hc, ht]
      simp [List.getD]
    subst hd
    rw [ht]
    simp

/-- what Take does with so many rounds to go: the bits, how many of the row, the error -/
def takeG (b : List UInt8) : Nat → Nat → List UInt8 → List UInt8 × Nat × Int
  | 0, u, o => (o, u, 0)
  | m + 1, u, o =>
    if b.length ≤ u then ([], 0, 7)
    else if (endR (b.take (u + 1))).2 = 5 then
      (if b.length ≤ u + 1 then ([], 0, 7)
      else if b.getD (u + 1) 0 = b.getD u 0 then ([], 0, 5)
      else takeG b m (u + 2) (o ++ [b.getD u 0]))
    else takeG b m (u + 1) (o ++ [b.getD u 0])

theorem takeG_zero (b : List UInt8) (u : Nat) (o : List UInt8) : takeG b 0 u o = (o, u, 0) := rfl
theorem takeG_end (b : List UInt8) (m u : Nat) (o : List UInt8) (h : b.length ≤ u) : takeG b (m + 1) u o = ([], 0, 7) := by rw [takeG, if_pos h]
theorem takeG_on (b : List UInt8) (m u : Nat) (o : List UInt8) (h : u < b.length) (h5 : (endR (b.take (u + 1))).2 ≠ 5) : takeG b (m + 1) u o = takeG b m (u + 1) (o ++ [b.getD u 0]) := by
  rw [takeG, if_neg (by omega), if_neg h5]
theorem takeG_end5 (b : List UInt8) (m u : Nat) (o : List UInt8) (h : b.length = u + 1) (h5 : (endR (b.take (u + 1))).2 = 5) : takeG b (m + 1) u o = ([], 0, 7) := by
  rw [takeG, if_neg (by omega), if_pos h5, if_pos (by omega)]
theorem takeG_six (b : List UInt8) (m u : Nat) (o : List UInt8) (h : u + 1 < b.length) (h5 : (endR (b.take (u + 1))).2 = 5) (h6 : b.getD (u + 1) 0 = b.getD u 0) : takeG b (m + 1) u o = ([], 0, 5) := by
  rw [takeG, if_neg (by omega), if_pos h5, if_neg (by omega), if_pos h6]
theorem takeG_on5 (b : List UInt8) (m u : Nat) (o : List UInt8) (h : u + 1 < b.length) (h5 : (endR (b.take (u + 1))).2 = 5) (h6 : b.getD (u + 1) 0 ≠ b.getD u 0) : takeG b (m + 1) u o = takeG b m (u + 2) (o ++ [b.getD u 0]) := by
  rw [takeG, if_neg (by omega), if_pos h5, if_neg (by omega), if_neg h6]

theorem take_getD (b : List UInt8) (u : Nat) (h : u < b.length) : b.take (u + 1) = b.take u ++ [b.getD u 0] := by
  rw [List.take_succ_eq_append_getElem h]
  simp [List.getD, h]
theorem end_next (b : List UInt8) (u : Nat) (h : u < b.length) : endR (b.take (u + 1)) = addR (endR (b.take u)) (b.getD u 0) := by
  rw [take_getD b u h, endR_snoc]
theorem end_on (b : List UInt8) (u : Nat) (h : u < b.length) (h4 : (endR (b.take u)).2 ≤ 4) (h5 : (endR (b.take (u + 1))).2 ≠ 5) : (endR (b.take (u + 1))).2 ≤ 4 := by
  rw [end_next b u h] at h5 ⊢
  have := addR_pos (endR (b.take u)) (b.getD u 0)
  omega
theorem end_five (b : List UInt8) (u : Nat) (h : u < b.length) (h4 : (endR (b.take u)).2 ≤ 4) : (endR (b.take (u + 1))).2 ≤ 5 := by
  rw [end_next b u h]
  have := addR_pos (endR (b.take u)) (b.getD u 0)
  omega
theorem end_on5 (b : List UInt8) (u : Nat) (h : u + 1 < b.length) (h6 : b.getD (u + 1) 0 ≠ b.getD u 0) : endR (b.take (u + 2)) = (b.getD (u + 1) 0, 1) := by
  rw [end_next b (u + 1) h]
  apply addR_other
  rw [end_next b u (by omega), addR_1]
  exact h6

theorem takeG_ok (b : List UInt8) (m : Nat) : ∀ u o o' u', takeG b m u o = (o', u', 0) → o'.length = o.length + m ∧ u ≤ u' ∧ o <+: o' := by
  induction m with
  | zero =>
    intro u o o' u' h
    rw [takeG_zero] at h
    obtain ⟨rfl, h2⟩ := Prod.mk.inj h
    obtain ⟨rfl, _⟩ := Prod.mk.inj h2
    exact ⟨rfl, Nat.le_refl _, List.prefix_refl _⟩
  | succ m ih =>
    intro u o o' u' h
    rw [takeG] at h
    split at h
    · simp at h
    · split at h
      · split at h
        · simp at h
        · split at h
          · simp at h
          · obtain ⟨g1, g2, g3⟩ := ih _ _ _ _ h
            refine ⟨by rw [g1]; simp; omega, by omega, (List.prefix_append o _).trans g3⟩
      · obtain ⟨g1, g2, g3⟩ := ih _ _ _ _ h
        refine ⟨by rw [g1]; simp; omega, by omega, (List.prefix_append o _).trans g3⟩

theorem takeG_split (b : List UInt8) (m n : Nat) : ∀ u o o' u', takeG b (n + m) u o = (o', u', 0) → ∃ s k, takeG b n u o = (s, k, 0) ∧ takeG b m k s = (o', u', 0) := by
  induction n with
  | zero => intro u o o' u' h; rw [Nat.zero_add] at h; exact ⟨o, u, rfl, h⟩
  | succ n ih =>
    intro u o o' u' h
    rw [Nat.succ_add] at h
    rw [takeG] at h ⊢
    split at h
    · simp at h
    · rename_i c1
      rw [if_neg c1]
      split at h
      · rename_i c2
        rw [if_pos c2]
        split at h
        · simp at h
        · rename_i c3
          rw [if_neg c3]
          split at h
          · simp at h
          · rename_i c4
            rw [if_neg c4]
            exact ih _ _ _ _ h
      · rename_i c2
        rw [if_neg c2]
        exact ih _ _ _ _ h
theorem takeG_err (b : List UInt8) (m : Nat) : ∀ u o, (takeG b m u o).2.2 = 0 ∨ takeG b m u o = ([], 0, 7) ∨ takeG b m u o = ([], 0, 5) := by
  induction m with
  | zero => intro u o; exact .inl rfl
  | succ m ih =>
    intro u o
    rw [takeG]
    split
    · exact .inr (.inl rfl)
    · split
      · split
        · exact .inr (.inl rfl)
        · split
          · exact .inr (.inr rfl)
          · exact ih _ _
      · exact ih _ _

/-- what was put in is taken out, whatever follows -/
theorem take_put (r : List UInt8) (c : List UInt8) : ∀ a, rowB (a ++ c) = true → takeG (putF (a ++ c) ++ r) c.length (putF a).length a = (a ++ c, (putF (a ++ c)).length, 0) := by
  induction c with
  | nil => intro a _; simp [takeG]
  | cons d c ih =>
    intro a h
    have e1 : a ++ d :: c = (a ++ [d]) ++ c := by simp
    have hb : bit d = true := by
      rw [rowB_append] at h
      simp only [Bool.and_eq_true] at h
      have := h.2
      simp [rowB] at this
      exact this.1
    rw [e1] at h ⊢
    have ih' := ih (a ++ [d]) h
    obtain ⟨t, ht⟩ := putF_append (a ++ [d]) c
    generalize hB : putF ((a ++ [d]) ++ c) ++ r = B at *
    have hB' : B = putS (putF a) d ++ (t ++ r) := by rw [← hB, ht, putF_snoc, List.append_assoc]
    have hF : putF (a ++ [d]) = putS (putF a) d := putF_snoc a d
    rw [hF] at ih'
    rw [List.length_cons]
    unfold putS at hB' ih'
    by_cases h5 : (endR (putF a ++ [d])).2 = 5
    · rw [if_pos h5] at hB' ih'
      have hu : (putF a).length + 1 < B.length := by rw [hB']; simp
      have ht1 : B.take ((putF a).length + 1) = putF a ++ [d] := by
        rw [hB', List.append_assoc, List.take_append_of_le_length (by simp)]
        exact List.take_of_length_le (by simp)
      have hg0 : B.getD (putF a).length 0 = d := by rw [hB']; simp [List.getD]
      have hg1 : B.getD ((putF a).length + 1) 0 = otb d := by rw [hB']; simp [List.getD]
      rw [takeG_on5 B _ _ _ hu (by rw [ht1]; exact h5) (by rw [hg0, hg1]; exact otb_ne hb), hg0]
      have el : (putF a ++ [d] ++ [otb d]).length = (putF a).length + 2 := by simp
      rw [el] at ih'
      exact ih'
    · rw [if_neg h5] at hB' ih'
      have hu : (putF a).length < B.length := by rw [hB']; simp
      have ht1 : B.take ((putF a).length + 1) = putF a ++ [d] := by
        rw [hB', List.take_append_of_le_length (by simp)]
        exact List.take_of_length_le (by simp)
      have hg0 : B.getD (putF a).length 0 = d := by rw [hB']; simp [List.getD]
      rw [takeG_on B _ _ _ hu (by rw [ht1]; exact h5), hg0]
      have el : (putF a ++ [d]).length = (putF a).length + 1 := by simp
      rw [el] at ih'
      exact ih'

/-- Fixed: the bit ahead, and the row so far -/
def fixP (l : List UInt8) (a : UInt8) : Nat → UInt8
  | 0 => a
  | i + 1 => l.getD i 0
def fixR (l : List UInt8) (a : UInt8) : Nat → List UInt8
  | 0 => []
  | i + 1 => (if i % 4 = 0 then fixR l a i ++ [otb (fixP l a i)] else fixR l a i) ++ [l.getD i 0]
theorem fixR_block (l : List UInt8) (a : UInt8) (i : Nat) (h : i % 4 = 0) (k : Nat) (hk : 1 ≤ k) (hk4 : k ≤ 4) (hl : i + k ≤ l.length) : fixR l a (i + k) = fixR l a i ++ ([otb (fixP l a i)] ++ (l.drop i).take k) := by
  induction k with
  | zero => omega
  | succ k ih =>
    rw [Nat.add_succ, fixR]
    by_cases h0 : k = 0
    · subst h0
      simp only [Nat.add_zero]
      rw [if_pos h]
      have : (l.drop i).take 1 = [l.getD i 0] := by
        rw [List.take_one, List.head?_drop]
        have : i < l.length := by omega
        simp [List.getD, this]
      rw [this]; simp
    · rw [if_neg (by omega), ih (by omega) (by omega) (by omega)]
      have : (l.drop i).take (k + 1) = (l.drop i).take k ++ [l.getD (i + k) 0] := by
        rw [List.take_succ_eq_append_getElem (by rw [List.length_drop]; omega)]
        have hlt : i + k < l.length := by omega
        simp [List.getD, hlt]
      rw [this]; simp
theorem fixR_len (l : List UInt8) (a : UInt8) (i : Nat) : (fixR l a i).length ≤ 2 * i := by
  induction i with
  | zero => simp [fixR]
  | succ i ih => rw [fixR]; split <;> simp <;> omega
theorem fixR_last (l : List UInt8) (a : UInt8) (i : Nat) : (fixR l a (i + 1)).getD ((fixR l a (i + 1)).length - 1) 0 = fixP l a (i + 1) := by
  rw [fixR]
  simp [fixP, List.getD]
end Go.Proofs.YtnhnemmddgofnaaDoor.Bm
namespace Go.Proofs.YtnhnemmddgofnaaDoor
namespace Bw
open Bm Cm

structure Fr where
  id : Int
  lo : Bool
  fa : Bool
  re : Bool
  sz : Int
  dt : List UInt8

def frE (f : Fr) : Int := frEn f.id f.lo f.fa f.re f.sz f.dt.length
def bitB (r : Bool) : UInt8 := if r then 49 else 48
def nameL (f : Fr) : List UInt8 :=
  if f.lo then (bitsHead f.id.toNat 29 29).take 11 ++ [49, 49] ++ (bitsHead f.id.toNat 29 29).drop 11 ++ [bitB f.re]
  else bitsHead f.id.toNat 11 11 ++ [bitB f.re, 48]
def midL (f : Fr) : List UInt8 := if f.fa then [49, 48, 49, 48] else if f.lo then [48, 48] else [48]
/-- the number of four bits that tells how many bytes there are -/
def codeN (f : Fr) : Nat := if f.re then f.sz.toNat else sizesL.idxOf f.dt.length
def headL (f : Fr) : List UInt8 := [48] ++ nameL f ++ midL f ++ bitsHead (codeN f) 4 4 ++ ofL f.dt
def grayL (n : Nat) : List UInt8 := [[48, 48, 48, 48], [48, 48, 49, 49], [48, 49, 49, 48], [48, 49, 48, 49], [49, 49, 48, 48], [49, 49, 49, 49], [49, 48, 49, 48], [49, 48, 48, 49]].getD n []
def endK (n : Nat) : Nat := if 16 < n then 2 else 1
/-- the count and the sum of a fast one, before the fixed bits are put in -/
def tailL (h p : List UInt8) (n : Nat) : List UInt8 := grayL ((p.length - h.length) % 8) ++ sumL (endK n) (p ++ grayL ((p.length - h.length) % 8))
def fixL (l : List UInt8) (a : UInt8) : List UInt8 := fixR l a l.length
def lastB (p : List UInt8) : UInt8 := p.getD (p.length - 1) 0
def fastL (h p : List UInt8) (n : Nat) : List UInt8 := fixL (tailL h p n) (lastB p)
def onesL : List UInt8 := [49, 49, 49, 49, 49, 49, 49, 49, 49, 49]
def bitsL (f : Fr) : List UInt8 :=
  if f.fa then putF (headL f) ++ fastL (headL f) (putF (headL f)) f.dt.length ++ onesL
  else putF (headL f ++ sumL 0 (headL f)) ++ onesL

theorem bitB_bit (r : Bool) : bit (bitB r) = true := by cases r <;> rfl
theorem rowB_all {l : List UInt8} : rowB l = true ↔ ∀ c ∈ l, bit c = true := by simp [rowB]
theorem nameL_row (f : Fr) : rowB (nameL f) = true := by
  unfold nameL
  split
  · rw [rowB_append, rowB_append, rowB_append, rowB_take (bitsHead_row _ _ _), rowB_drop (bitsHead_row _ _ _)]
    simp [rowB, bitB_bit]; decide
  · rw [rowB_append, bitsHead_row]
    simp [rowB, bitB_bit]; decide
theorem nameL_len (f : Fr) : (nameL f).length = if f.lo then 32 else 13 := by
  unfold nameL
  split <;> simp [bitsHead_length]
theorem midL_row (f : Fr) : rowB (midL f) = true := by unfold midL; split <;> (try split) <;> rfl
theorem midL_len (f : Fr) : 1 ≤ (midL f).length ∧ (midL f).length ≤ 4 := by unfold midL; split <;> (try split) <;> simp
theorem headL_row (f : Fr) : rowB (headL f) = true := by
  unfold headL
  rw [rowB_append, rowB_append, rowB_append, rowB_append, nameL_row, midL_row, bitsHead_row, ofL_row]; rfl
theorem headL_len (f : Fr) : (headL f).length = 1 + (if f.lo then 32 else 13) + (midL f).length + 4 + 8 * f.dt.length := by
  unfold headL
  simp only [List.length_append, nameL_len, bitsHead_length, ofL_length, List.length_singleton]
theorem headL_le (f : Fr) (h : f.dt.length ≤ 64) : 19 ≤ (headL f).length ∧ (headL f).length ≤ 553 := by
  have h1 := headL_len f
  have h2 := midL_len f
  split at h1 <;> omega
theorem gray_row (n : Nat) (h : n < 8) : rowB (grayL n) = true ∧ (grayL n).length = 4 := by
  match n, h with
  | 0, _ => decide
  | 1, _ => decide
  | 2, _ => decide
  | 3, _ => decide
  | 4, _ => decide
  | 5, _ => decide
  | 6, _ => decide
  | 7, _ => decide
theorem endK_le (n : Nat) : endK n ≤ 4 := by unfold endK; split <;> omega
theorem tailL_row (h p : List UInt8) (n : Nat) : rowB (tailL h p n) = true := by
  unfold tailL
  rw [rowB_append, (gray_row _ (Nat.mod_lt _ (by omega))).1, sumL_row]; rfl
theorem tailL_len (h p : List UInt8) (n : Nat) : (tailL h p n).length = 4 + kS (endK n) := by
  unfold tailL
  rw [List.length_append, (gray_row _ (Nat.mod_lt _ (by omega))).2, sumL_len]
theorem tailL_le (h p : List UInt8) (n : Nat) : (tailL h p n).length ≤ 25 := by
  rw [tailL_len]
  unfold endK
  split
  · show 4 + 21 ≤ 25; omega
  · show 4 + 17 ≤ 25; omega
end Bw
end Go.Proofs.YtnhnemmddgofnaaDoor
namespace Go.Proofs.YtnhnemmddgofnaaDoor
namespace Bw
open Bm Cm
theorem frE_ok {f : Fr} (h : frE f = 0) : 0 ≤ f.id ∧ f.id ≤ topI f.lo ∧ (f.re = true → f.fa = false ∧ f.dt.length = 0) ∧ 0 ≤ f.sz ∧ f.sz ≤ 8 ∧ (f.re = false → f.sz = 0) ∧ f.dt.length ≤ 64 ∧ (f.fa = false → f.dt.length ≤ 8) ∧ f.dt.length ∈ sizesL := by
  obtain ⟨id, lo, fa, re, sz, dt⟩ := f
  unfold frE frEn at h
  simp only at h ⊢
  split at h
  · cases h
  · split at h
    · cases h
    · split at h
      · cases h
      · split at h
        · cases h
        · split at h
          · rename_i h1 h2 h3 h4 h5
            refine ⟨by omega, by omega, fun hr => ?_, by omega, by omega, fun hr => ?_, by omega, fun hf => ?_, h5⟩
            · subst hr
              cases fa
              · exact ⟨rfl, by simpa using h2⟩
              · exact absurd ⟨rfl, .inl rfl⟩ h2
            · subst hr
              have : ¬ 0 < sz := fun h => h3 (.inr (.inr ⟨h, rfl⟩))
              omega
            · subst hf
              have : ¬ 8 < dt.length := fun h => h4 (.inr ⟨h, rfl⟩)
              omega
          · cases h
end Bw
end Go.Proofs.YtnhnemmddgofnaaDoor
