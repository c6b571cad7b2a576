/- Filters as data, which numbers they let in, and how many: plain facts; of no program. -/
import Derived.Test.YtfmjhgggoklaoaaDoorFilBits
namespace Go.Proofs.YtfmjhgggoklaoaaDoor
namespace Bw
/-- a right filter -/
structure Fn where
  w : Nat
  m : Nat
  lo : Bool
def topN (lo : Bool) : Nat := if lo then 536870911 else 2047
def widN (lo : Bool) : Nat := if lo then 29 else 11
theorem topN_eq (lo : Bool) : topN lo = 2 ^ widN lo - 1 := by cases lo <;> rfl
theorem topN_lt (lo : Bool) : topN lo < 2 ^ widN lo := by cases lo <;> decide
theorem topN_le (lo : Bool) : topN lo ≤ 536870911 := by cases lo <;> decide
structure okN (x : Fn) : Prop where
  w : x.w ≤ topN x.lo
  m : x.m ≤ topN x.lo
/-- a filter lets a number of a kind in -/
def hitN (x : Fn) (lo : Bool) (n : Nat) : Bool := (x.lo == lo) && (x.w &&& x.m == n &&& x.m)
/-- the first lets in all numbers of the second -/
def holdsN (x y : Fn) : Bool := (x.lo == y.lo) && ((x.m &&& y.m == x.m) && (x.w &&& x.m == y.w &&& x.m))
def meetN (x y : Fn) : Bool := (x.lo == y.lo) && ((x.w ^^^ y.w) &&& x.m &&& y.m == 0)
def sharedN (x y : Fn) : Fn := ⟨x.w &&& x.m ||| y.w &&& y.m, x.m ||| y.m, x.lo⟩
def anyN (l : List Fn) (lo : Bool) (n : Nat) : Bool := l.any fun x => hitN x lo n
def cntN (lo : Bool) (p : Nat → Bool) : Nat := (List.range (2 ^ widN lo)).countP p
/-- how many of x's numbers none of l lets in -/
def leftN (l : List Fn) (x : Fn) : Nat := cntN x.lo fun n => hitN x x.lo n && !anyN l x.lo n
def countN (l : List Fn) (lo : Bool) : Nat := cntN lo (anyN l lo)
theorem cntN_le (lo : Bool) (p : Nat → Bool) : cntN lo p ≤ 536870912 := by
  unfold cntN
  refine Nat.le_trans List.countP_le_length ?_
  rw [List.length_range]
  cases lo <;> decide
theorem bit_of {a b : Nat} (h : a = b) (i : Nat) : a.testBit i = b.testBit i := by rw [h]
theorem hit_both {x y : Fn} (h : meetN x y = true) (n : Nat) : hitN (sharedN x y) x.lo n = (hitN x x.lo n && hitN y x.lo n) := by
  unfold meetN at h
  simp only [Bool.and_eq_true, beq_iff_eq] at h
  obtain ⟨hl, hb⟩ := h
  rw [Bool.eq_iff_iff]
  unfold hitN sharedN
  simp only [Bool.and_eq_true, beq_iff_eq, beq_self_eq_true, true_and, hl.symm]
  constructor
  · intro e
    refine ⟨Nat.eq_of_testBit_eq fun i => ?_, Nat.eq_of_testBit_eq fun i => ?_⟩
    all_goals
      have e1 := bit_of e i
      have e2 := bit_of hb i
      simp only [Nat.testBit_and, Nat.testBit_or, Nat.testBit_xor, Nat.zero_testBit] at e1 e2 ⊢
      revert e1 e2
      cases x.w.testBit i <;> cases x.m.testBit i <;> cases y.w.testBit i <;> cases y.m.testBit i <;> cases n.testBit i <;> decide
  · rintro ⟨e1, e2⟩
    refine Nat.eq_of_testBit_eq fun i => ?_
    have e1 := bit_of e1 i
    have e2 := bit_of e2 i
    simp only [Nat.testBit_and, Nat.testBit_or] at e1 e2 ⊢
    revert e1 e2
    cases x.w.testBit i <;> cases x.m.testBit i <;> cases y.w.testBit i <;> cases y.m.testBit i <;> cases n.testBit i <;> decide
theorem hit_apart {x y : Fn} (h : meetN x y = false) (n : Nat) : (hitN x x.lo n && hitN y x.lo n) = false := by
  rw [Bool.eq_false_iff]
  intro e
  unfold hitN at e
  simp only [Bool.and_eq_true, beq_iff_eq, beq_self_eq_true, true_and] at e
  obtain ⟨e1, e2, e3⟩ := e
  have : meetN x y = true := by
    unfold meetN
    simp only [Bool.and_eq_true, beq_iff_eq]
    refine ⟨e2.symm, Nat.eq_of_testBit_eq fun i => ?_⟩
    have e1 := bit_of e1 i
    have e2 := bit_of e3 i
    simp only [Nat.testBit_and, Nat.testBit_xor, Nat.zero_testBit] at e1 e2 ⊢
    revert e1 e2
    cases x.w.testBit i <;> cases x.m.testBit i <;> cases y.w.testBit i <;> cases y.m.testBit i <;> cases n.testBit i <;> decide
  rw [this] at h
  cases h
theorem countP_split (l : List Nat) (p q : Nat → Bool) : l.countP p = l.countP (fun n => p n && !q n) + l.countP (fun n => p n && q n) := by
  induction l with
  | nil => rfl
  | cons a l ih =>
    simp only [List.countP_cons, ih]
    cases p a <;> cases q a <;> simp <;> omega
theorem countP_ext (l : List Nat) {p q : Nat → Bool} (h : ∀ n, p n = q n) : l.countP p = l.countP q := by rw [show p = q from funext h]
theorem leftN_cons (l : List Fn) (x y : Fn) : leftN l x = leftN (y :: l) x + (if meetN x y = true then leftN l (sharedN x y) else 0) := by
  unfold leftN cntN
  rw [countP_split _ _ (fun n => hitN y x.lo n)]
  have e1 : ∀ n, ((hitN x x.lo n && !anyN l x.lo n) && !hitN y x.lo n) = (hitN x x.lo n && !anyN (y :: l) x.lo n) := by
    intro n
    have e : anyN (y :: l) x.lo n = (hitN y x.lo n || anyN l x.lo n) := rfl
    rw [e]
    cases hitN x x.lo n <;> cases anyN l x.lo n <;> cases hitN y x.lo n <;> rfl
  rw [countP_ext _ e1]
  congr 1
  by_cases h : meetN x y = true
  · rw [if_pos h]
    have el : (sharedN x y).lo = x.lo := rfl
    rw [el]
    apply countP_ext
    intro n
    rw [hit_both h]
    cases hitN x x.lo n <;> cases anyN l x.lo n <;> cases hitN y x.lo n <;> rfl
  · rw [if_neg h, List.countP_eq_zero]
    intro n _
    have := hit_apart (Bool.eq_false_iff.2 h) n
    revert this
    cases hitN x x.lo n <;> cases anyN l x.lo n <;> cases hitN y x.lo n <;> simp
def wholeN (lo : Bool) : Fn := ⟨0, 0, lo⟩
theorem hit_whole (lo : Bool) (n : Nat) : hitN (wholeN lo) lo n = true := by unfold hitN wholeN; simp
theorem leftN_nil (x : Fn) : leftN [] x = cntN x.lo (hitN x x.lo) := by
  unfold leftN cntN
  apply countP_ext
  intro n
  have e : anyN [] x.lo n = false := rfl
  rw [e]
  simp
theorem countN_left (l : List Fn) (lo : Bool) : cntN lo (hitN (wholeN lo) lo) = leftN l (wholeN lo) + countN l lo := by
  unfold leftN countN
  have el : (wholeN lo).lo = lo := rfl
  rw [el]
  unfold cntN
  rw [countP_split _ _ (anyN l lo)]
  congr 1
  apply countP_ext
  intro n
  rw [hit_whole]
  simp
/-- how many bits a number has, of so many -/
def popN : Nat → Nat → Nat
  | 0, _ => 0
  | k + 1, x => x % 2 + popN k (x / 2)
theorem countP_double (p : Nat → Bool) : ∀ N, (List.range (2 * N)).countP p = (List.range N).countP (fun n => p (2 * n)) + (List.range N).countP (fun n => p (2 * n + 1))
  | 0 => rfl
  | N + 1 => by
    have e : 2 * (N + 1) = 2 * N + 1 + 1 := by omega
    rw [e, List.range_succ, List.range_succ, List.range_succ]
    simp only [List.countP_append, List.countP_singleton]
    rw [countP_double p N]
    omega
theorem and_split (a b : Nat) : a &&& b = 2 * (a / 2 &&& b / 2) + (a % 2 &&& b % 2) := by
  have h1 : (a &&& b) / 2 = a / 2 &&& b / 2 := by have := Nat.and_div_two_pow (a := a) (b := b) (n := 1); simpa using this
  have h2 : (a &&& b) % 2 = a % 2 &&& b % 2 := by have := Nat.and_mod_two_pow (a := a) (b := b) (n := 1); simpa using this
  omega
theorem countP_none (l : List Nat) {p : Nat → Bool} (h : ∀ n, p n = false) : l.countP p = 0 := by
  rw [List.countP_eq_zero]; intro n _; rw [h n]; simp
theorem and_eq_iff (a b v m : Nat) : (a &&& m = v &&& m) ↔ (a / 2 &&& m / 2 = v / 2 &&& m / 2 ∧ (a % 2 &&& m % 2) = (v % 2 &&& m % 2)) ∨ b ≠ b := by
  rw [and_split a m, and_split v m]
  have h1 : a % 2 &&& m % 2 < 2 := Nat.lt_of_le_of_lt Nat.and_le_left (Nat.mod_lt _ (by omega))
  have h2 : v % 2 &&& m % 2 < 2 := Nat.lt_of_le_of_lt Nat.and_le_left (Nat.mod_lt _ (by omega))
  omega
theorem size_pop : ∀ (k v m : Nat), m < 2 ^ k → (List.range (2 ^ k)).countP (fun n => v &&& m == n &&& m) = 2 ^ popN k (2 ^ k - 1 - m)
  | 0, v, m, h => by
    have h0 : m = 0 := by simpa using h
    subst h0
    simp [popN]
  | k + 1, v, m, h => by
    have hm : m / 2 < 2 ^ k := by rw [Nat.pow_succ] at h; omega
    have ih := size_pop k (v / 2) (m / 2) hm
    have e1 : (2 ^ (k + 1) - 1 - m) / 2 = 2 ^ k - 1 - m / 2 := by rw [Nat.pow_succ] at *; omega
    have e2 : (2 ^ (k + 1) - 1 - m) % 2 = 1 - m % 2 := by rw [Nat.pow_succ] at *; omega
    rw [popN, e1, e2, show 2 ^ (k + 1) = 2 * 2 ^ k by rw [Nat.pow_succ]; omega, countP_double, Nat.pow_add, ← ih]
    have b0 : ∀ n, (v &&& m == (2 * n) &&& m) = ((v / 2 &&& m / 2 == n &&& m / 2) && (v % 2 &&& m % 2 == 0)) := by
      intro n
      rw [Bool.eq_iff_iff]
      simp only [Bool.and_eq_true, beq_iff_eq]
      rw [and_eq_iff v 0 (2 * n) m, show 2 * n / 2 = n by omega, show 2 * n % 2 = 0 by omega, Nat.zero_and]
      simp
    have b1 : ∀ n, (v &&& m == (2 * n + 1) &&& m) = ((v / 2 &&& m / 2 == n &&& m / 2) && (v % 2 &&& m % 2 == m % 2)) := by
      intro n
      rw [Bool.eq_iff_iff]
      simp only [Bool.and_eq_true, beq_iff_eq]
      have e : 1 &&& m % 2 = m % 2 := by rcases Nat.mod_two_eq_zero_or_one m with h | h <;> rw [h] <;> rfl
      rw [and_eq_iff v 0 (2 * n + 1) m, show (2 * n + 1) / 2 = n by omega, show (2 * n + 1) % 2 = 1 by omega, e]
      simp
    rw [countP_ext _ b0, countP_ext _ b1]
    rcases Nat.mod_two_eq_zero_or_one m with hm2 | hm2
    · rw [hm2, Nat.and_zero]
      simp only [beq_self_eq_true, Bool.and_true]
      omega
    · rw [hm2]
      rcases Nat.mod_two_eq_zero_or_one v with hv | hv
      · rw [hv]
        have c1 : ∀ n, ((v / 2 &&& m / 2 == n &&& m / 2) && (0 &&& 1 == 1)) = false := fun n => by simp
        rw [countP_none _ c1]
        simp
      · rw [hv]
        have c1 : ∀ n, ((v / 2 &&& m / 2 == n &&& m / 2) && (1 &&& 1 == 0)) = false := fun n => by simp
        rw [countP_none _ c1]
        simp
theorem size_N (x : Fn) (h : okN x) : cntN x.lo (hitN x x.lo) = 2 ^ popN (widN x.lo) (topN x.lo - x.m) := by
  unfold cntN
  have e : ∀ n, hitN x x.lo n = (x.w &&& x.m == n &&& x.m) := fun n => by unfold hitN; simp
  rw [countP_ext _ e, size_pop _ _ _ (Nat.lt_of_le_of_lt h.m (topN_lt _)), topN_eq]
theorem popN_zero : ∀ k, popN k 0 = 0
  | 0 => rfl
  | k + 1 => by rw [popN]; simp [popN_zero k]
theorem popN_more : ∀ (k j x : Nat), x < 2 ^ k → popN (k + j) x = popN k x
  | 0, j, x, h => by
    have : x = 0 := by simpa using h
    subst this
    rw [popN_zero]; rfl
  | k + 1, j, x, h => by
    rw [show k + 1 + j = (k + j) + 1 by omega, popN, popN, popN_more k j (x / 2) (by rw [Nat.pow_succ] at h; omega)]
theorem popN_le : ∀ (k x : Nat), popN k x ≤ k
  | 0, _ => Nat.le_refl _
  | k + 1, x => by rw [popN]; have := popN_le k (x / 2); omega
theorem shared_ok {x y : Fn} (hx : okN x) (hy : okN y) (h : meetN x y = true) : okN (sharedN x y) := by
  unfold meetN at h
  simp only [Bool.and_eq_true, beq_iff_eq] at h
  have hw : ∀ a b : Nat, a ≤ topN x.lo → b ≤ topN x.lo → a ||| b ≤ topN x.lo := by
    intro a b ha hb
    have := topN_lt x.lo
    have h3 : a ||| b < 2 ^ widN x.lo := Nat.or_lt_two_pow (by omega) (by omega)
    have h4 := topN_eq x.lo
    omega
  have hy' := hy
  obtain ⟨hyw, hym⟩ := hy'
  rw [← h.1] at hyw hym
  refine ⟨?_, ?_⟩
  · exact hw _ _ (Nat.le_trans Nat.and_le_left hx.w) (Nat.le_trans Nat.and_le_left hyw)
  · exact hw _ _ hx.m hym
end Bw
end Go.Proofs.YtfmjhgggoklaoaaDoor
