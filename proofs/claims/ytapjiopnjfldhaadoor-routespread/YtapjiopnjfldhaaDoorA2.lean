/- Fewer filters that let in the same numbers; which filters let a number in: plain facts; of no program. -/
import Derived.WalkKit
import Derived.Laws.BitsLemmas
namespace Go.Proofs.YtapjiopnjfldhaaDoor
open Go.RowKit
namespace Bw
/-- a without the bits of b -/
def andnotN (a b : Nat) : Nat := a ^^^ (a &&& b)
theorem andnot_bit (a b i : Nat) : (andnotN a b).testBit i = (a.testBit i && !b.testBit i) := by
  unfold andnotN
  rw [Nat.testBit_xor, Nat.testBit_and]
  cases a.testBit i <;> cases b.testBit i <;> rfl
theorem wraps_i64 (n : Int) (h0 : 0 ≤ n) (h1 : n < 2 ^ 63) : IntKind.i64.wrap n = n := by rw [IntKind.wrap_i64]; omega
theorem and_i64 (a b : Nat) (ha : a < 2 ^ 62) (hb : b < 2 ^ 62) : bits .and .i64 (a : Int) (b : Int) = ((a &&& b : Nat) : Int) :=
  (bits_nat .i64 62 (by decide) (fun n h0 h1 => wraps_i64 n h0 (by omega)) a b ha hb).1
theorem or_i64 (a b : Nat) (ha : a < 2 ^ 62) (hb : b < 2 ^ 62) : bits .or .i64 (a : Int) (b : Int) = ((a ||| b : Nat) : Int) :=
  (bits_nat .i64 62 (by decide) (fun n h0 h1 => wraps_i64 n h0 (by omega)) a b ha hb).2
theorem xorN_i64 (a b : Nat) (ha : a < 2 ^ 62) (hb : b < 2 ^ 62) : bits .xor .i64 (a : Int) (b : Int) = ((a ^^^ b : Nat) : Int) := by
  have e : IntKind.i64.bits = 64 := rfl
  have ha' : a % 2 ^ 64 = a := Nat.mod_eq_of_lt (by omega)
  have hb' : b % 2 ^ 64 = b := Nat.mod_eq_of_lt (by omega)
  simp only [bits, BitVec.ofInt_natCast, BitVec.toNat_xor, BitVec.toNat_ofNat, e, ha', hb']
  exact wraps_i64 _ (Int.natCast_nonneg _) (by have := Nat.xor_lt_two_pow ha hb; omega)
theorem andnot_le (a b : Nat) : andnotN a b ≤ a := by
  have h : andnotN a b &&& a = andnotN a b := by
    apply Nat.eq_of_testBit_eq
    intro i
    rw [Nat.testBit_and, andnot_bit]
    cases a.testBit i <;> cases b.testBit i <;> rfl
  rw [← h]
  exact Nat.and_le_right
theorem andnot_i64 (a b : Nat) (ha : a < 2 ^ 62) (hb : b < 2 ^ 62) : bits .andNot .i64 (a : Int) (b : Int) = (andnotN a b : Int) := by
  have e : IntKind.i64.bits = 64 := rfl
  have ha' : a % 2 ^ 64 = a := Nat.mod_eq_of_lt (by omega)
  have hb' : b % 2 ^ 64 = b := Nat.mod_eq_of_lt (by omega)
  have key : a &&& (2 ^ 64 - 1 - b) = andnotN a b := by
    apply Nat.eq_of_testBit_eq
    intro i
    rw [Nat.testBit_and, andnot_bit, show 2 ^ 64 - 1 - b = 2 ^ 64 - (b + 1) by omega, Nat.testBit_two_pow_sub_succ (by omega)]
    by_cases hi : i < 64
    · simp [hi]
    · have h0 : a.testBit i = false := Nat.testBit_lt_two_pow (Nat.lt_of_lt_of_le ha (Nat.pow_le_pow_right (by omega) (by omega)))
      simp [h0]
  simp only [bits, BitVec.ofInt_natCast, BitVec.toNat_and, BitVec.toNat_not, BitVec.toNat_ofNat, e, ha', hb']
  rw [key]
  exact wraps_i64 _ (Int.natCast_nonneg _) (by have := andnot_le a b; omega)
theorem andnot_top (k m : Nat) (hm : m < 2 ^ k) : andnotN (2 ^ k - 1) m = 2 ^ k - 1 - m := by
  apply Nat.eq_of_testBit_eq
  intro i
  rw [andnot_bit, show 2 ^ k - 1 - m = 2 ^ k - (m + 1) by omega, Nat.testBit_two_pow_sub_succ hm, Nat.testBit_two_pow_sub_one]
theorem andnot_zero (a b : Nat) : andnotN a b = 0 ↔ a &&& b = a := by
  constructor
  · intro h
    apply Nat.eq_of_testBit_eq
    intro i
    have hi : (andnotN a b).testBit i = false := by rw [h]; exact Nat.zero_testBit i
    rw [andnot_bit] at hi
    rw [Nat.testBit_and]
    revert hi
    cases a.testBit i <;> cases b.testBit i <;> decide
  · intro h
    unfold andnotN
    rw [h, Nat.xor_self]
end Bw
end Go.Proofs.YtapjiopnjfldhaaDoor
namespace Go.Proofs.YtapjiopnjfldhaaDoor
namespace Bw
/-- a right filter -/
structure Fn where
  w : Nat
  m : Nat
  lo : Bool
def topN (lo : Bool) : Nat := if lo then 536870911 else 2047
def widN (lo : Bool) : Nat := if lo then 29 else 11
theorem topN_eq (lo : Bool) : topN lo = 2 ^ widN lo - 1 := by cases lo <;> rfl
theorem topN_lt (lo : Bool) : topN lo < 2 ^ widN lo := by cases lo <;> decide
theorem topN_le (lo : Bool) : topN lo ≤ 536870911 := by cases lo <;> decide
structure okN (x : Fn) : Prop where
  w : x.w ≤ topN x.lo
  m : x.m ≤ topN x.lo
/-- a filter lets a number of a kind in -/
def hitN (x : Fn) (lo : Bool) (n : Nat) : Bool := (x.lo == lo) && (x.w &&& x.m == n &&& x.m)
/-- the first lets in all numbers of the second -/
def holdsN (x y : Fn) : Bool := (x.lo == y.lo) && ((x.m &&& y.m == x.m) && (x.w &&& x.m == y.w &&& x.m))
def meetN (x y : Fn) : Bool := (x.lo == y.lo) && ((x.w ^^^ y.w) &&& x.m &&& y.m == 0)
def sharedN (x y : Fn) : Fn := ⟨x.w &&& x.m ||| y.w &&& y.m, x.m ||| y.m, x.lo⟩
def anyN (l : List Fn) (lo : Bool) (n : Nat) : Bool := l.any fun x => hitN x lo n
def cntN (lo : Bool) (p : Nat → Bool) : Nat := (List.range (2 ^ widN lo)).countP p
/-- how many of x's numbers none of l lets in -/
def leftN (l : List Fn) (x : Fn) : Nat := cntN x.lo fun n => hitN x x.lo n && !anyN l x.lo n
def countN (l : List Fn) (lo : Bool) : Nat := cntN lo (anyN l lo)
theorem cntN_le (lo : Bool) (p : Nat → Bool) : cntN lo p ≤ 536870912 := by
  unfold cntN
  refine Nat.le_trans List.countP_le_length ?_
  rw [List.length_range]
  cases lo <;> decide
theorem bit_of {a b : Nat} (h : a = b) (i : Nat) : a.testBit i = b.testBit i := by rw [h]
theorem hit_both {x y : Fn} (h : meetN x y = true) (n : Nat) : hitN (sharedN x y) x.lo n = (hitN x x.lo n && hitN y x.lo n) := by
  unfold meetN at h
  simp only [Bool.and_eq_true, beq_iff_eq] at h
  obtain ⟨hl, hb⟩ := h
  rw [Bool.eq_iff_iff]
  unfold hitN sharedN
  simp only [Bool.and_eq_true, beq_iff_eq, beq_self_eq_true, true_and, hl.symm]
  constructor
  · intro e
    refine ⟨Nat.eq_of_testBit_eq fun i => ?_, Nat.eq_of_testBit_eq fun i => ?_⟩
    all_goals
      have e1 := bit_of e i
      have e2 := bit_of hb i
      simp only [Nat.testBit_and, Nat.testBit_or, Nat.testBit_xor, Nat.zero_testBit] at e1 e2 ⊢
      revert e1 e2
      cases x.w.testBit i <;> cases x.m.testBit i <;> cases y.w.testBit i <;> cases y.m.testBit i <;> cases n.testBit i <;> decide
  · rintro ⟨e1, e2⟩
    refine Nat.eq_of_testBit_eq fun i => ?_
    have e1 := bit_of e1 i
    have e2 := bit_of e2 i
    simp only [Nat.testBit_and, Nat.testBit_or] at e1 e2 ⊢
    revert e1 e2
    cases x.w.testBit i <;> cases x.m.testBit i <;> cases y.w.testBit i <;> cases y.m.testBit i <;> cases n.testBit i <;> decide
theorem hit_apart {x y : Fn} (h : meetN x y = false) (n : Nat) : (hitN x x.lo n && hitN y x.lo n) = false := by
  rw [Bool.eq_false_iff]
  intro e
  unfold hitN at e
  simp only [Bool.and_eq_true, beq_iff_eq, beq_self_eq_true, true_and] at e
  obtain ⟨e1, e2, e3⟩ := e
  have : meetN x y = true := by
    unfold meetN
    simp only [Bool.and_eq_true, beq_iff_eq]
    refine ⟨e2.symm, Nat.eq_of_testBit_eq fun i => ?_⟩
    have e1 := bit_of e1 i
    have e2 := bit_of e3 i
    simp only [Nat.testBit_and, Nat.testBit_xor, Nat.zero_testBit] at e1 e2 ⊢
    revert e1 e2
    cases x.w.testBit i <;> cases x.m.testBit i <;> cases y.w.testBit i <;> cases y.m.testBit i <;> cases n.testBit i <;> decide
  rw [this] at h
  cases h
theorem countP_split (l : List Nat) (p q : Nat → Bool) : l.countP p = l.countP (fun n => p n && !q n) + l.countP (fun n => p n && q n) := by
  induction l with
  | nil => rfl
  | cons a l ih =>
    simp only [List.countP_cons, ih]
    cases p a <;> cases q a <;> simp <;> omega
theorem countP_ext (l : List Nat) {p q : Nat → Bool} (h : ∀ n, p n = q n) : l.countP p = l.countP q := by rw [show p = q from funext h]
theorem leftN_cons (l : List Fn) (x y : Fn) : leftN l x = leftN (y :: l) x + (if meetN x y = true then leftN l (sharedN x y) else 0) := by
  unfold leftN cntN
  rw [countP_split _ _ (fun n => hitN y x.lo n)]
  have e1 : ∀ n, ((hitN x x.lo n && !anyN l x.lo n) && !hitN y x.lo n) = (hitN x x.lo n && !anyN (y :: l) x.lo n) := by
    intro n
    have e : anyN (y :: l) x.lo n = (hitN y x.lo n || anyN l x.lo n) := rfl
    rw [e]
    cases hitN x x.lo n <;> cases anyN l x.lo n <;> cases hitN y x.lo n <;> rfl
  rw [countP_ext _ e1]
  congr 1
  by_cases h : meetN x y = true
  · rw [if_pos h]
    have el : (sharedN x y).lo = x.lo := rfl
    rw [el]
    apply countP_ext
    intro n
    rw [hit_both h]
    cases hitN x x.lo n <;> cases anyN l x.lo n <;> cases hitN y x.lo n <;> rfl
  · rw [if_neg h, List.countP_eq_zero]
    intro n _
    have := hit_apart (Bool.eq_false_iff.2 h) n
    revert this
    cases hitN x x.lo n <;> cases anyN l x.lo n <;> cases hitN y x.lo n <;> simp
def wholeN (lo : Bool) : Fn := ⟨0, 0, lo⟩
theorem hit_whole (lo : Bool) (n : Nat) : hitN (wholeN lo) lo n = true := by unfold hitN wholeN; simp
theorem leftN_nil (x : Fn) : leftN [] x = cntN x.lo (hitN x x.lo) := by
  unfold leftN cntN
  apply countP_ext
  intro n
  have e : anyN [] x.lo n = false := rfl
  rw [e]
  simp
theorem countN_left (l : List Fn) (lo : Bool) : cntN lo (hitN (wholeN lo) lo) = leftN l (wholeN lo) + countN l lo := by
  unfold leftN countN
  have el : (wholeN lo).lo = lo := rfl
  rw [el]
  unfold cntN
  rw [countP_split _ _ (anyN l lo)]
  congr 1
  apply countP_ext
  intro n
  rw [hit_whole]
  simp
/-- how many bits a number has, of so many -/
def popN : Nat → Nat → Nat
  | 0, _ => 0
  | k + 1, x => x % 2 + popN k (x / 2)
theorem countP_double (p : Nat → Bool) : ∀ N, (List.range (2 * N)).countP p = (List.range N).countP (fun n => p (2 * n)) + (List.range N).countP (fun n => p (2 * n + 1))
  | 0 => rfl
  | N + 1 => by
    have e : 2 * (N + 1) = 2 * N + 1 + 1 := by omega
    rw [e, List.range_succ, List.range_succ, List.range_succ]
    simp only [List.countP_append, List.countP_singleton]
    rw [countP_double p N]
    omega
theorem and_split (a b : Nat) : a &&& b = 2 * (a / 2 &&& b / 2) + (a % 2 &&& b % 2) := by
  have h1 : (a &&& b) / 2 = a / 2 &&& b / 2 := by have := Nat.and_div_two_pow (a := a) (b := b) (n := 1); simpa using this
  have h2 : (a &&& b) % 2 = a % 2 &&& b % 2 := by have := Nat.and_mod_two_pow (a := a) (b := b) (n := 1); simpa using this
  omega
theorem countP_none (l : List Nat) {p : Nat → Bool} (h : ∀ n, p n = false) : l.countP p = 0 := by
  rw [List.countP_eq_zero]; intro n _; rw [h n]; simp
theorem and_eq_iff (a b v m : Nat) : (a &&& m = v &&& m) ↔ (a / 2 &&& m / 2 = v / 2 &&& m / 2 ∧ (a % 2 &&& m % 2) = (v % 2 &&& m % 2)) ∨ b ≠ b := by
  rw [and_split a m, and_split v m]
  have h1 : a % 2 &&& m % 2 < 2 := Nat.lt_of_le_of_lt Nat.and_le_left (Nat.mod_lt _ (by omega))
  have h2 : v % 2 &&& m % 2 < 2 := Nat.lt_of_le_of_lt Nat.and_le_left (Nat.mod_lt _ (by omega))
  omega
theorem size_pop : ∀ (k v m : Nat), m < 2 ^ k → (List.range (2 ^ k)).countP (fun n => v &&& m == n &&& m) = 2 ^ popN k (2 ^ k - 1 - m)
  | 0, v, m, h => by
    have h0 : m = 0 := by simpa using h
    subst h0
    simp [popN]
  | k + 1, v, m, h => by
    have hm : m / 2 < 2 ^ k := by rw [Nat.pow_succ] at h; omega
    have ih := size_pop k (v / 2) (m / 2) hm
    have e1 : (2 ^ (k + 1) - 1 - m) / 2 = 2 ^ k - 1 - m / 2 := by rw [Nat.pow_succ] at *; omega
    have e2 : (2 ^ (k + 1) - 1 - m) % 2 = 1 - m % 2 := by rw [Nat.pow_succ] at *; omega
    rw [popN, e1, e2, show 2 ^ (k + 1) = 2 * 2 ^ k by rw [Nat.pow_succ]; omega, countP_double, Nat.pow_add, ← ih]
    have b0 : ∀ n, (v &&& m == (2 * n) &&& m) = ((v / 2 &&& m / 2 == n &&& m / 2) && (v % 2 &&& m % 2 == 0)) := by
      intro n
      rw [Bool.eq_iff_iff]
      simp only [Bool.and_eq_true, beq_iff_eq]
      rw [and_eq_iff v 0 (2 * n) m, show 2 * n / 2 = n by omega, show 2 * n % 2 = 0 by omega, Nat.zero_and]
      simp
    have b1 : ∀ n, (v &&& m == (2 * n + 1) &&& m) = ((v / 2 &&& m / 2 == n &&& m / 2) && (v % 2 &&& m % 2 == m % 2)) := by
      intro n
      rw [Bool.eq_iff_iff]
      simp only [Bool.and_eq_true, beq_iff_eq]
      have e : 1 &&& m % 2 = m % 2 := by rcases Nat.mod_two_eq_zero_or_one m with h | h <;> rw [h] <;> rfl
      rw [and_eq_iff v 0 (2 * n + 1) m, show (2 * n + 1) / 2 = n by omega, show (2 * n + 1) % 2 = 1 by omega, e]
      simp
    rw [countP_ext _ b0, countP_ext _ b1]
    rcases Nat.mod_two_eq_zero_or_one m with hm2 | hm2
    · rw [hm2, Nat.and_zero]
      simp only [beq_self_eq_true, Bool.and_true]
      omega
    · rw [hm2]
      rcases Nat.mod_two_eq_zero_or_one v with hv | hv
      · rw [hv]
        have c1 : ∀ n, ((v / 2 &&& m / 2 == n &&& m / 2) && (0 &&& 1 == 1)) = false := fun n => by simp
        rw [countP_none _ c1]
        simp
      · rw [hv]
        have c1 : ∀ n, ((v / 2 &&& m / 2 == n &&& m / 2) && (1 &&& 1 == 0)) = false := fun n => by simp
        rw [countP_none _ c1]
        simp
theorem size_N (x : Fn) (h : okN x) : cntN x.lo (hitN x x.lo) = 2 ^ popN (widN x.lo) (topN x.lo - x.m) := by
  unfold cntN
  have e : ∀ n, hitN x x.lo n = (x.w &&& x.m == n &&& x.m) := fun n => by unfold hitN; simp
  rw [countP_ext _ e, size_pop _ _ _ (Nat.lt_of_le_of_lt h.m (topN_lt _)), topN_eq]
theorem popN_zero : ∀ k, popN k 0 = 0
  | 0 => rfl
  | k + 1 => by rw [popN]; simp [popN_zero k]
theorem popN_more : ∀ (k j x : Nat), x < 2 ^ k → popN (k + j) x = popN k x
  | 0, j, x, h => by
    have : x = 0 := by simpa using h
    subst this
    rw [popN_zero]; rfl
  | k + 1, j, x, h => by
    rw [show k + 1 + j = (k + j) + 1 by omega, popN, popN, popN_more k j (x / 2) (by rw [Nat.pow_succ] at h; omega)]
theorem popN_le : ∀ (k x : Nat), popN k x ≤ k
  | 0, _ => Nat.le_refl _
  | k + 1, x => by rw [popN]; have := popN_le k (x / 2); omega
theorem shared_ok {x y : Fn} (hx : okN x) (hy : okN y) (h : meetN x y = true) : okN (sharedN x y) := by
  unfold meetN at h
  simp only [Bool.and_eq_true, beq_iff_eq] at h
  have hw : ∀ a b : Nat, a ≤ topN x.lo → b ≤ topN x.lo → a ||| b ≤ topN x.lo := by
    intro a b ha hb
    have := topN_lt x.lo
    have h3 : a ||| b < 2 ^ widN x.lo := Nat.or_lt_two_pow (by omega) (by omega)
    have h4 := topN_eq x.lo
    omega
  have hy' := hy
  obtain ⟨hyw, hym⟩ := hy'
  rw [← h.1] at hyw hym
  refine ⟨?_, ?_⟩
  · exact hw _ _ (Nat.le_trans Nat.and_le_left hx.w) (Nat.le_trans Nat.and_le_left hyw)
  · exact hw _ _ hx.m hym
end Bw
end Go.Proofs.YtapjiopnjfldhaaDoor
namespace Go.Proofs.YtapjiopnjfldhaaDoor
namespace Bw
/-- may the numbers from low on, twice 2^j of them, be one filter's? -/
def grC (low high j : Nat) : Bool := decide (low % (2 * 2 ^ j) = 0) && decide (low + 2 * 2 ^ j ≤ high + 1)
def grE (low high : Nat) : Nat → Nat → Nat
  | 0, j => j
  | f + 1, j => if grC low high j = true then grE low high f (j + 1) else j
/-- the exponent of the greatest -/
def grX (low high : Nat) : Nat := grE low high 64 0
theorem grE_at (low high j : Nat) (h1 : ∀ i, i < j → grC low high i = true) (h2 : grC low high j = false) : ∀ f i, i ≤ j → j ≤ i + f → grE low high f i = j
  | 0, i, a, b => by rw [grE]; omega
  | f + 1, i, a, b => by
    rw [grE]
    by_cases e : i = j
    · subst e; rw [h2]; simp
    · rw [if_pos (h1 i (by omega))]
      exact grE_at low high j h1 h2 f (i + 1) (by omega) (by omega)
theorem grX_at {low high j : Nat} (h1 : ∀ i, i < j → grC low high i = true) (h2 : grC low high j = false) (hj : j ≤ 64) : grX low high = j := grE_at low high j h1 h2 64 0 (by omega) (by omega)
theorem grC_pow {low high j : Nat} (h : grC low high j = true) : low % 2 ^ (j + 1) = 0 ∧ low + 2 ^ (j + 1) ≤ high + 1 := by
  unfold grC at h
  simp only [Bool.and_eq_true, decide_eq_true_eq] at h
  rw [Nat.pow_succ, Nat.mul_comm]
  exact h
theorem grE_spec (low high : Nat) : ∀ f i, low % 2 ^ i = 0 → low + 2 ^ i ≤ high + 1 → low % 2 ^ grE low high f i = 0 ∧ low + 2 ^ grE low high f i ≤ high + 1
  | 0, i, a, b => ⟨a, b⟩
  | f + 1, i, a, b => by
    rw [grE]
    split
    · rename_i h
      exact grE_spec low high f (i + 1) (grC_pow h).1 (grC_pow h).2
    · exact ⟨a, b⟩
theorem grX_spec {low high : Nat} (h : low ≤ high) : low % 2 ^ grX low high = 0 ∧ low + 2 ^ grX low high ≤ high + 1 := grE_spec low high 64 0 (by simp; omega) (by simp; omega)
/-- the filters of the numbers from low to high, so many at most -/
def rngF (lo : Bool) (high : Nat) : Nat → Nat → List Fn
  | 0, _ => []
  | f + 1, low => if low ≤ high then ⟨low, topN lo - (2 ^ grX low high - 1), lo⟩ :: rngF lo high f (low + 2 ^ grX low high) else []
theorem rngF_end {lo : Bool} {high low : Nat} (h : ¬ low ≤ high) : ∀ f, rngF lo high f low = []
  | 0 => rfl
  | f + 1 => by rw [rngF, if_neg h]
theorem rngF_eq (lo : Bool) (high : Nat) : ∀ f g low, high + 1 - low ≤ f → high + 1 - low ≤ g → rngF lo high f low = rngF lo high g low
  | 0, g, low, h1, h2 => by rw [rngF_end (by omega), rngF_end (by omega)]
  | f + 1, g, low, h1, h2 => by
    by_cases h : low ≤ high
    · cases g with
      | zero => omega
      | succ g =>
        have hp := Nat.two_pow_pos (grX low high)
        rw [rngF, rngF, if_pos h, if_pos h, rngF_eq lo high f g (low + 2 ^ grX low high) (by omega) (by omega)]
    · rw [rngF_end h, rngF_end h]
/-- the filters of the numbers from low to high -/
def rngN (lo : Bool) (high : Nat) (low : Nat) : List Fn := rngF lo high (high + 1 - low) low
theorem rngN_more {lo : Bool} {high low : Nat} (h : low ≤ high) : rngN lo high low = ⟨low, topN lo - (2 ^ grX low high - 1), lo⟩ :: rngN lo high (low + 2 ^ grX low high) := by
  have hp := Nat.two_pow_pos (grX low high)
  unfold rngN
  rw [rngF_eq lo high (high + 1 - low) (high - low + 1) low (Nat.le_refl _) (by omega), rngF, if_pos h, rngF_eq lo high (high - low) (high + 1 - (low + 2 ^ grX low high)) _ (by omega) (Nat.le_refl _)]
theorem rngN_end {lo : Bool} {high low : Nat} (h : ¬ low ≤ high) : rngN lo high low = [] := rngF_end h _
theorem rngN_len0 (lo : Bool) (high : Nat) : ∀ d low, high + 1 - low ≤ d → (rngN lo high low).length ≤ high + 1 - low
  | 0, low, h => by rw [rngN_end (by omega)]; simp
  | d + 1, low, hd => by
    by_cases h : low ≤ high
    · rw [rngN_more h]
      have h2 := Nat.two_pow_pos (grX low high)
      have ih := rngN_len0 lo high d (low + 2 ^ grX low high) (by omega)
      simp only [List.length_cons]
      omega
    · rw [rngN_end h]; simp
theorem rngN_len (lo : Bool) (high low : Nat) : (rngN lo high low).length ≤ high + 1 - low := rngN_len0 lo high _ low (Nat.le_refl _)
theorem and_high (k j m : Nat) (hj : j ≤ k) (hm : m < 2 ^ k) : m &&& (2 ^ k - 1 - (2 ^ j - 1)) = m / 2 ^ j * 2 ^ j := by
  have hp := Nat.two_pow_pos j
  have e : 2 ^ k = 2 ^ (k - j) * 2 ^ j := by rw [← Nat.pow_add]; congr 1; omega
  have hpk := Nat.two_pow_pos (k - j)
  have eM : 2 ^ k - 1 - (2 ^ j - 1) = (2 ^ (k - j) - 1) * 2 ^ j := by
    rw [Nat.sub_mul, ← e]
    have : 2 ^ j ≤ 2 ^ k := Nat.pow_le_pow_right (by omega) hj
    omega
  have h1 : (m &&& (2 ^ k - 1 - (2 ^ j - 1))) % 2 ^ j = 0 := by
    rw [Nat.and_mod_two_pow, eM, Nat.mul_mod_left, Nat.and_zero]
  have h2 : (m &&& (2 ^ k - 1 - (2 ^ j - 1))) / 2 ^ j = m / 2 ^ j := by
    rw [Nat.and_div_two_pow, eM, Nat.mul_div_cancel _ hp, Nat.and_two_pow_sub_one_eq_mod]
    apply Nat.mod_eq_of_lt
    rw [Nat.div_lt_iff_lt_mul hp, ← e]
    exact hm
  have h3 := Nat.div_add_mod (m &&& (2 ^ k - 1 - (2 ^ j - 1))) (2 ^ j)
  rw [h1, h2, Nat.mul_comm] at h3
  omega
theorem pow_le_of {j k : Nat} (h : 2 ^ j ≤ 2 ^ k) : j ≤ k := (Nat.pow_le_pow_iff_right (by omega)).1 h
/-- the first filter of a range lets in just its numbers -/
theorem hit_first {lo : Bool} {high low n : Nat} (h : low ≤ high) (hh : high ≤ topN lo) (hn : n ≤ topN lo) :
    hitN ⟨low, topN lo - (2 ^ grX low high - 1), lo⟩ lo n = (decide (low ≤ n) && decide (n < low + 2 ^ grX low high)) := by
  obtain ⟨h1, h2⟩ := grX_spec h
  have ht := topN_lt lo
  have hte := topN_eq lo
  have hp := Nat.two_pow_pos (grX low high)
  have hk : grX low high ≤ widN lo := pow_le_of (by omega)
  unfold hitN
  simp only [beq_self_eq_true, Bool.true_and]
  rw [hte, and_high _ _ low hk (by omega), and_high _ _ n hk (by omega), Bool.eq_iff_iff]
  simp only [beq_iff_eq, Bool.and_eq_true, decide_eq_true_eq]
  generalize 2 ^ grX low high = q at *
  have d1 := Nat.div_add_mod low q
  have d2 := Nat.div_add_mod n q
  have d3 := Nat.mod_lt n hp
  rw [Nat.mul_comm] at d1 d2
  rw [h1] at d1
  constructor
  · intro e; omega
  · rintro ⟨a, b⟩
    have : n / q = low / q := by
      apply Nat.div_eq_of_lt_le
      · omega
      · rw [Nat.add_mul]; omega
    rw [this]
theorem rfirst_ok {lo : Bool} {high low : Nat} (h : low ≤ high) (hh : high ≤ topN lo) : okN ⟨low, topN lo - (2 ^ grX low high - 1), lo⟩ := ⟨by simp only; omega, by simp only; omega⟩
theorem rngN_ok0 (lo : Bool) (high : Nat) (hh : high ≤ topN lo) : ∀ d low, high + 1 - low ≤ d → ∀ x ∈ rngN lo high low, okN x
  | 0, low, h => by rw [rngN_end (by omega)]; intro x hx; cases hx
  | d + 1, low, hd => by
    by_cases h : low ≤ high
    · rw [rngN_more h]
      have h2 := Nat.two_pow_pos (grX low high)
      have ih := rngN_ok0 lo high hh d (low + 2 ^ grX low high) (by omega)
      intro x hx
      rcases List.mem_cons.1 hx with rfl | hx
      · exact rfirst_ok h hh
      · exact ih x hx
    · rw [rngN_end h]; intro x hx; cases hx
theorem rngN_ok (lo : Bool) (high low : Nat) (hh : high ≤ topN lo) : ∀ x ∈ rngN lo high low, okN x := rngN_ok0 lo high hh _ low (Nat.le_refl _)
/-- just one lets in a number of the range, none another one -/
theorem rngN_hits0 (lo : Bool) (high n : Nat) (hh : high ≤ topN lo) (hn : n ≤ topN lo) : ∀ d low, high + 1 - low ≤ d → (rngN lo high low).countP (fun x => hitN x lo n) = if low ≤ n ∧ n ≤ high then 1 else 0
  | 0, low, h => by rw [rngN_end (by omega), if_neg (by omega)]; rfl
  | d + 1, low, hd => by
    by_cases h : low ≤ high
    · have h2 := Nat.two_pow_pos (grX low high)
      have ih := rngN_hits0 lo high n hh hn d (low + 2 ^ grX low high) (by omega)
      have h3 := (grX_spec h).2
      rw [rngN_more h, List.countP_cons, ih, hit_first h hh hn]
      generalize 2 ^ grX low high = q at *
      repeat' split
      all_goals try simp only [Bool.and_eq_true, decide_eq_true_eq] at *
      all_goals omega
    · rw [rngN_end h, if_neg (by omega)]; rfl
theorem rngN_hits (lo : Bool) (high low n : Nat) (hh : high ≤ topN lo) (hn : n ≤ topN lo) : (rngN lo high low).countP (fun x => hitN x lo n) = if low ≤ n ∧ n ≤ high then 1 else 0 := rngN_hits0 lo high n hh hn _ low (Nat.le_refl _)
theorem any_count (l : List Fn) (lo : Bool) (n : Nat) : anyN l lo n = decide (0 < l.countP (fun x => hitN x lo n)) := by
  unfold anyN
  rw [Bool.eq_iff_iff]
  simp only [decide_eq_true_eq, List.countP_pos_iff, List.any_eq_true]
theorem count_between (low high : Nat) : ∀ N, high < N → (List.range N).countP (fun n => decide (low ≤ n ∧ n ≤ high)) = high + 1 - low := by
  have hN : ∀ N, (List.range N).countP (fun n => decide (low ≤ n ∧ n ≤ high)) = min N (high + 1) - low := by
    intro N
    induction N with
    | zero => simp
    | succ N ih =>
      rw [List.range_succ, List.countP_append, ih, List.countP_singleton]
      by_cases a : low ≤ N ∧ N ≤ high
      · rw [if_pos (by simpa using a)]; omega
      · rw [if_neg (by simpa using a)]; omega
  intro N h
  rw [hN]
  omega
theorem countP_upto (N : Nat) {p q : Nat → Bool} (h : ∀ n, n < N → p n = q n) : (List.range N).countP p = (List.range N).countP q :=
  List.countP_congr fun n hn => by rw [h n (List.mem_range.1 hn)]
/-- a range's filters let in as many numbers as there are -/
theorem rngN_count (lo : Bool) (high low : Nat) (hh : high ≤ topN lo) : countN (rngN lo high low) lo = high + 1 - low := by
  unfold countN cntN
  have ht := topN_lt lo
  have hte := topN_eq lo
  rw [← count_between low high (2 ^ widN lo) (by omega)]
  apply countP_upto
  intro n hn
  rw [any_count, rngN_hits lo high low n hh (by omega)]
  by_cases a : low ≤ n ∧ n ≤ high
  · rw [if_pos a]; simp [a]
  · rw [if_neg a]; simp only [Nat.lt_irrefl, decide_false]; exact (decide_eq_false a).symm
end Bw
end Go.Proofs.YtapjiopnjfldhaaDoor
namespace Go.Proofs.YtapjiopnjfldhaaDoor
namespace Bw
/-- the places of those that let a number in, of the first k -/
def inFK (l : List Fn) (lo : Bool) (n : Nat) : Nat → List Int
  | 0 => []
  | k + 1 => inFK l lo n k ++ (if hitN (l.getD k ⟨0, 0, false⟩) lo n = true then [(k : Int)] else [])
def inN (l : List Fn) (lo : Bool) (n : Nat) : List Int := inFK l lo n l.length
theorem inFK_len (l : List Fn) (lo : Bool) (n : Nat) : ∀ k, (inFK l lo n k).length ≤ k
  | 0 => Nat.le_refl _
  | k + 1 => by
    rw [inFK, List.length_append]
    have := inFK_len l lo n k
    split <;> simp <;> omega
/-- filter k makes filter i needless -/
def goesBy (l : List Fn) (i k : Nat) : Bool := if k < i then holdsN (l.getD k ⟨0, 0, false⟩) (l.getD i ⟨0, 0, false⟩) else if i < k then holdsN (l.getD k ⟨0, 0, false⟩) (l.getD i ⟨0, 0, false⟩) && !holdsN (l.getD i ⟨0, 0, false⟩) (l.getD k ⟨0, 0, false⟩) else false
def goesN (l : List Fn) (i : Nat) : Bool := (List.range l.length).any (goesBy l i)
def bareN (x : Fn) : Fn := ⟨x.w &&& x.m, x.m, x.lo⟩
def leastK (l : List Fn) : Nat → List Fn
  | 0 => []
  | k + 1 => leastK l k ++ (if goesN l k = true then [] else [bareN (l.getD k ⟨0, 0, false⟩)])
def leastN (l : List Fn) : List Fn := leastK l l.length
theorem leastK_len (l : List Fn) : ∀ k, (leastK l k).length ≤ k
  | 0 => Nat.le_refl _
  | k + 1 => by
    rw [leastK, List.length_append]
    have := leastK_len l k
    split <;> simp <;> omega
theorem leastK_mem (l : List Fn) (x : Fn) : ∀ k, x ∈ leastK l k ↔ ∃ i, i < k ∧ goesN l i = false ∧ x = bareN (l.getD i ⟨0, 0, false⟩)
  | 0 => by simp [leastK]
  | k + 1 => by
    rw [leastK, List.mem_append, leastK_mem l x k]
    constructor
    · rintro (⟨i, h1, h2, h3⟩ | h)
      · exact ⟨i, by omega, h2, h3⟩
      · split at h
        · cases h
        · rename_i hg
          exact ⟨k, by omega, by simpa using hg, by simpa using h⟩
    · rintro ⟨i, h1, h2, h3⟩
      by_cases e : i = k
      · subst e
        right
        rw [h2]
        simpa using h3
      · exact .inl ⟨i, by omega, h2, h3⟩
theorem hit_bare (x : Fn) (lo : Bool) (n : Nat) : hitN (bareN x) lo n = hitN x lo n := by
  unfold hitN bareN
  simp only
  rw [Nat.and_assoc, Nat.and_self]
theorem bare_ok {x : Fn} (h : okN x) : okN (bareN x) := ⟨Nat.le_trans Nat.and_le_left h.w, h.m⟩
theorem getD_ok {l : List Fn} (h : ∀ x ∈ l, okN x) (i : Nat) : okN (l.getD i ⟨0, 0, false⟩) := by
  by_cases hi : i < l.length
  · have : l.getD i ⟨0, 0, false⟩ = l[i] := by simp [List.getD, hi]
    rw [this]
    exact h _ (List.getElem_mem hi)
  · have : l.getD i ⟨0, 0, false⟩ = ⟨0, 0, false⟩ := by simp [List.getD, List.getElem?_eq_none (Nat.le_of_not_lt hi)]
    rw [this]
    exact ⟨by decide, by decide⟩
theorem least_ok {l : List Fn} (h : ∀ x ∈ l, okN x) : ∀ x ∈ leastN l, okN x := by
  intro x hx
  obtain ⟨i, _, _, rfl⟩ := (leastK_mem l x _).1 hx
  exact bare_ok (getD_ok h i)
theorem holds_hit {x y : Fn} {lo : Bool} {n : Nat} (h : holdsN x y = true) (hy : hitN y lo n = true) : hitN x lo n = true := by
  unfold holdsN at h
  unfold hitN at hy ⊢
  simp only [Bool.and_eq_true, beq_iff_eq] at h hy ⊢
  obtain ⟨h1, h2, h3⟩ := h
  obtain ⟨h4, h5⟩ := hy
  refine ⟨h1.trans h4, Nat.eq_of_testBit_eq fun i => ?_⟩
  have e2 := bit_of h2 i
  have e3 := bit_of h3 i
  have e5 := bit_of h5 i
  simp only [Nat.testBit_and] at e2 e3 e5 ⊢
  revert e2 e3 e5
  cases x.w.testBit i <;> cases x.m.testBit i <;> cases y.w.testBit i <;> cases y.m.testBit i <;> cases n.testBit i <;> decide
theorem holds_le {x y : Fn} (h : holdsN x y = true) : x.m ≤ y.m := by
  unfold holdsN at h
  simp only [Bool.and_eq_true, beq_iff_eq] at h
  rw [← h.2.1]
  exact Nat.and_le_right
theorem holds_turn {x y : Fn} (h : holdsN x y = true) (e : x.m = y.m) : holdsN y x = true := by
  unfold holdsN at h ⊢
  simp only [Bool.and_eq_true, beq_iff_eq] at h ⊢
  obtain ⟨h1, h2, h3⟩ := h
  rw [e] at h3 ⊢
  exact ⟨h1.symm, Nat.and_self _, h3.symm⟩
/-- behind each that lets a number in stands one that stays and does so, too -/
theorem stays_hit (l : List Fn) (lo : Bool) (n : Nat) : ∀ (c i : Nat), i < l.length → (l.getD i ⟨0, 0, false⟩).m * (l.length + 1) + i < c → hitN (l.getD i ⟨0, 0, false⟩) lo n = true →
    ∃ k, k < l.length ∧ goesN l k = false ∧ hitN (l.getD k ⟨0, 0, false⟩) lo n = true
  | 0, i, _, h, _ => absurd h (Nat.not_lt_zero _)
  | c + 1, i, hi, h, hh => by
    by_cases hg : goesN l i = false
    · exact ⟨i, hi, hg, hh⟩
    · have hg' : goesN l i = true := by simpa using hg
      unfold goesN at hg'
      rw [List.any_eq_true] at hg'
      obtain ⟨k, hk, hk2⟩ := hg'
      rw [List.mem_range] at hk
      unfold goesBy at hk2
      split at hk2
      · rename_i hki
        have h1 := holds_le hk2
        refine stays_hit l lo n c k hk ?_ (holds_hit hk2 hh)
        have := Nat.mul_le_mul_right (l.length + 1) h1
        omega
      · split at hk2
        · simp only [Bool.and_eq_true, Bool.not_eq_true'] at hk2
          have h1 := holds_le hk2.1
          have h2 : (l.getD k ⟨0, 0, false⟩).m ≠ (l.getD i ⟨0, 0, false⟩).m := by
            intro e
            rw [holds_turn hk2.1 e] at hk2
            exact absurd hk2.2 (by simp)
          refine stays_hit l lo n c k hk ?_ (holds_hit hk2.1 hh)
          have h3 : (l.getD k ⟨0, 0, false⟩).m + 1 ≤ (l.getD i ⟨0, 0, false⟩).m := by omega
          have := Nat.mul_le_mul_right (l.length + 1) h3
          rw [Nat.add_mul] at this
          omega
        · cases hk2
theorem any_getD (l : List Fn) (lo : Bool) (n : Nat) : anyN l lo n = true ↔ ∃ i, i < l.length ∧ hitN (l.getD i ⟨0, 0, false⟩) lo n = true := by
  unfold anyN
  rw [List.any_eq_true]
  constructor
  · rintro ⟨x, hx, hh⟩
    obtain ⟨i, hi, rfl⟩ := List.mem_iff_getElem.1 hx
    exact ⟨i, hi, by simpa [List.getD, hi] using hh⟩
  · rintro ⟨i, hi, hh⟩
    exact ⟨l[i], List.getElem_mem hi, by simpa [List.getD, hi] using hh⟩
theorem least_any (l : List Fn) (lo : Bool) (n : Nat) : anyN (leastN l) lo n = anyN l lo n := by
  rw [Bool.eq_iff_iff, any_getD l]
  unfold anyN leastN
  rw [List.any_eq_true]
  constructor
  · rintro ⟨x, hx, hh⟩
    obtain ⟨i, hi, _, rfl⟩ := (leastK_mem l x _).1 hx
    rw [hit_bare] at hh
    exact ⟨i, hi, hh⟩
  · rintro ⟨i, hi, hh⟩
    obtain ⟨k, hk, hg, hh⟩ := stays_hit l lo n _ i hi (Nat.lt_succ_self _) hh
    exact ⟨_, (leastK_mem l _ _).2 ⟨k, hk, hg, rfl⟩, by rw [hit_bare]; exact hh⟩
theorem least_count (l : List Fn) (lo : Bool) : countN (leastN l) lo = countN l lo := by
  unfold countN cntN
  exact countP_ext _ (least_any l lo)
theorem inFK_count (l : List Fn) (lo : Bool) (n : Nat) : ∀ k, k ≤ l.length → (inFK l lo n k).length = (l.take k).countP (fun x => hitN x lo n)
  | 0, _ => rfl
  | k + 1, h => by
    have e : l.take (k + 1) = l.take k ++ [l.getD k ⟨0, 0, false⟩] := by
      rw [List.take_succ_eq_append_getElem (by omega)]
      simp [List.getD, show k < l.length by omega]
    rw [inFK, e, List.length_append, List.countP_append, inFK_count l lo n k (by omega), List.countP_singleton]
    split <;> simp
theorem in_count (l : List Fn) (lo : Bool) (n : Nat) : (inN l lo n).length = l.countP (fun x => hitN x lo n) := by
  unfold inN
  rw [inFK_count l lo n _ (Nat.le_refl _), List.take_length]
theorem in_any (l : List Fn) (lo : Bool) (n : Nat) : decide (0 < (inN l lo n).length) = anyN l lo n := by
  rw [in_count, any_count]
theorem inFK_join (a b : List Fn) (lo : Bool) (n : Nat) : ∀ k, k ≤ b.length → inFK (a ++ b) lo n (a.length + k) = inN a lo n ++ (inFK b lo n k).map (fun i => (a.length : Int) + i)
  | 0, _ => by
    have h : ∀ j, j ≤ a.length → inFK (a ++ b) lo n j = inFK a lo n j := by
      intro j
      induction j with
      | zero => intro _; rfl
      | succ j ih =>
        intro hj
        rw [inFK, inFK, ih (by omega)]
        have e : (a ++ b).getD j ⟨0, 0, false⟩ = a.getD j ⟨0, 0, false⟩ := by simp [List.getD, List.getElem?_append_left (show j < a.length by omega)]
        rw [e]
    rw [Nat.add_zero, h _ (Nat.le_refl _)]
    simp [inN, inFK]
  | k + 1, hk => by
    rw [show a.length + (k + 1) = (a.length + k) + 1 by omega, inFK, inFK, inFK_join a b lo n k (by omega)]
    have e : (a ++ b).getD (a.length + k) ⟨0, 0, false⟩ = b.getD k ⟨0, 0, false⟩ := by simp [List.getD, List.getElem?_append_right]
    rw [e]
    split <;> simp
theorem in_join (a b : List Fn) (lo : Bool) (n : Nat) : inN (a ++ b) lo n = inN a lo n ++ (inN b lo n).map (fun i => (a.length : Int) + i) := by
  have := inFK_join a b lo n b.length (Nat.le_refl _)
  unfold inN at this ⊢
  rw [List.length_append]
  exact this
theorem count_mono (a b : List Fn) (lo : Bool) : countN a lo ≤ countN (a ++ b) lo := by
  unfold countN cntN
  apply List.countP_mono_left
  intro n _ h
  unfold anyN at h ⊢
  rw [List.any_append, h]
  rfl
end Bw
end Go.Proofs.YtapjiopnjfldhaaDoor
