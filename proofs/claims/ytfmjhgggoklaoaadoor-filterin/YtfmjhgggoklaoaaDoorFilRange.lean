/- The filters of a range of numbers, as data: plain facts; of no program. -/
import Derived.Test.YtfmjhgggoklaoaaDoorFilMath
namespace Go.Proofs.YtfmjhgggoklaoaaDoor
namespace Bw
/-- may the numbers from low on, twice 2^j of them, be one filter's? -/
def grC (low high j : Nat) : Bool := decide (low % (2 * 2 ^ j) = 0) && decide (low + 2 * 2 ^ j ≤ high + 1)
def grE (low high : Nat) : Nat → Nat → Nat
  | 0, j => j
  | f + 1, j => if grC low high j = true then grE low high f (j + 1) else j
/-- the exponent of the greatest -/
def grX (low high : Nat) : Nat := grE low high 64 0
theorem grE_at (low high j : Nat) (h1 : ∀ i, i < j → grC low high i = true) (h2 : grC low high j = false) : ∀ f i, i ≤ j → j ≤ i + f → grE low high f i = j
  | 0, i, a, b => by rw [grE]; omega
  | f + 1, i, a, b => by
    rw [grE]
    by_cases e : i = j
    · subst e; rw [h2]; simp
    · rw [if_pos (h1 i (by omega))]
      exact grE_at low high j h1 h2 f (i + 1) (by omega) (by omega)
theorem grX_at {low high j : Nat} (h1 : ∀ i, i < j → grC low high i = true) (h2 : grC low high j = false) (hj : j ≤ 64) : grX low high = j := grE_at low high j h1 h2 64 0 (by omega) (by omega)
theorem grC_pow {low high j : Nat} (h : grC low high j = true) : low % 2 ^ (j + 1) = 0 ∧ low + 2 ^ (j + 1) ≤ high + 1 := by
  unfold grC at h
  simp only [Bool.and_eq_true, decide_eq_true_eq] at h
  rw [Nat.pow_succ, Nat.mul_comm]
  exact h
theorem grE_spec (low high : Nat) : ∀ f i, low % 2 ^ i = 0 → low + 2 ^ i ≤ high + 1 → low % 2 ^ grE low high f i = 0 ∧ low + 2 ^ grE low high f i ≤ high + 1
  | 0, i, a, b => ⟨a, b⟩
  | f + 1, i, a, b => by
    rw [grE]
    split
    · rename_i h
      exact grE_spec low high f (i + 1) (grC_pow h).1 (grC_pow h).2
    · exact ⟨a, b⟩
theorem grX_spec {low high : Nat} (h : low ≤ high) : low % 2 ^ grX low high = 0 ∧ low + 2 ^ grX low high ≤ high + 1 := grE_spec low high 64 0 (by simp; omega) (by simp; omega)
/-- the filters of the numbers from low to high, so many at most -/
def rngF (lo : Bool) (high : Nat) : Nat → Nat → List Fn
  | 0, _ => []
  | f + 1, low => if low ≤ high then ⟨low, topN lo - (2 ^ grX low high - 1), lo⟩ :: rngF lo high f (low + 2 ^ grX low high) else []
theorem rngF_end {lo : Bool} {high low : Nat} (h : ¬ low ≤ high) : ∀ f, rngF lo high f low = []
  | 0 => rfl
  | f + 1 => by rw [rngF, if_neg h]
theorem rngF_eq (lo : Bool) (high : Nat) : ∀ f g low, high + 1 - low ≤ f → high + 1 - low ≤ g → rngF lo high f low = rngF lo high g low
  | 0, g, low, h1, h2 => by rw [rngF_end (by omega), rngF_end (by omega)]
  | f + 1, g, low, h1, h2 => by
    by_cases h : low ≤ high
    · cases g with
      | zero => omega
      | succ g =>
        have hp := Nat.two_pow_pos (grX low high)
        rw [rngF, rngF, if_pos h, if_pos h, rngF_eq lo high f g (low + 2 ^ grX low high) (by omega) (by omega)]
    · rw [rngF_end h, rngF_end h]
/-- the filters of the numbers from low to high -/
def rngN (lo : Bool) (high : Nat) (low : Nat) : List Fn := rngF lo high (high + 1 - low) low
theorem rngN_more {lo : Bool} {high low : Nat} (h : low ≤ high) : rngN lo high low = ⟨low, topN lo - (2 ^ grX low high - 1), lo⟩ :: rngN lo high (low + 2 ^ grX low high) := by
  have hp := Nat.two_pow_pos (grX low high)
  unfold rngN
  rw [rngF_eq lo high (high + 1 - low) (high - low + 1) low (Nat.le_refl _) (by omega), rngF, if_pos h, rngF_eq lo high (high - low) (high + 1 - (low + 2 ^ grX low high)) _ (by omega) (Nat.le_refl _)]
theorem rngN_end {lo : Bool} {high low : Nat} (h : ¬ low ≤ high) : rngN lo high low = [] := rngF_end h _
theorem rngN_len0 (lo : Bool) (high : Nat) : ∀ d low, high + 1 - low ≤ d → (rngN lo high low).length ≤ high + 1 - low
  | 0, low, h => by rw [rngN_end (by omega)]; simp
  | d + 1, low, hd => by
    by_cases h : low ≤ high
    · rw [rngN_more h]
      have h2 := Nat.two_pow_pos (grX low high)
      have ih := rngN_len0 lo high d (low + 2 ^ grX low high) (by omega)
      simp only [List.length_cons]
      omega
    · rw [rngN_end h]; simp
theorem rngN_len (lo : Bool) (high low : Nat) : (rngN lo high low).length ≤ high + 1 - low := rngN_len0 lo high _ low (Nat.le_refl _)
theorem and_high (k j m : Nat) (hj : j ≤ k) (hm : m < 2 ^ k) : m &&& (2 ^ k - 1 - (2 ^ j - 1)) = m / 2 ^ j * 2 ^ j := by
  have hp := Nat.two_pow_pos j
  have e : 2 ^ k = 2 ^ (k - j) * 2 ^ j := by rw [← Nat.pow_add]; congr 1; omega
  have hpk := Nat.two_pow_pos (k - j)
  have eM : 2 ^ k - 1 - (2 ^ j - 1) = (2 ^ (k - j) - 1) * 2 ^ j := by
    rw [Nat.sub_mul, ← e]
    have : 2 ^ j ≤ 2 ^ k := Nat.pow_le_pow_right (by omega) hj
    omega
  have h1 : (m &&& (2 ^ k - 1 - (2 ^ j - 1))) % 2 ^ j = 0 := by
    rw [Nat.and_mod_two_pow, eM, Nat.mul_mod_left, Nat.and_zero]
  have h2 : (m &&& (2 ^ k - 1 - (2 ^ j - 1))) / 2 ^ j = m / 2 ^ j := by
    rw [Nat.and_div_two_pow, eM, Nat.mul_div_cancel _ hp, Nat.and_two_pow_sub_one_eq_mod]
    apply Nat.mod_eq_of_lt
    rw [Nat.div_lt_iff_lt_mul hp, ← e]
    exact hm
  have h3 := Nat.div_add_mod (m &&& (2 ^ k - 1 - (2 ^ j - 1))) (2 ^ j)
  rw [h1, h2, Nat.mul_comm] at h3
  omega
theorem pow_le_of {j k : Nat} (h : 2 ^ j ≤ 2 ^ k) : j ≤ k := (Nat.pow_le_pow_iff_right (by omega)).1 h
/-- the first filter of a range lets in just its numbers -/
theorem hit_first {lo : Bool} {high low n : Nat} (h : low ≤ high) (hh : high ≤ topN lo) (hn : n ≤ topN lo) :
    hitN ⟨low, topN lo - (2 ^ grX low high - 1), lo⟩ lo n = (decide (low ≤ n) && decide (n < low + 2 ^ grX low high)) := by
  obtain ⟨h1, h2⟩ := grX_spec h
  have ht := topN_lt lo
  have hte := topN_eq lo
  have hp := Nat.two_pow_pos (grX low high)
  have hk : grX low high ≤ widN lo := pow_le_of (by omega)
  unfold hitN
  simp only [beq_self_eq_true, Bool.true_and]
  rw [hte, and_high _ _ low hk (by omega), and_high _ _ n hk (by omega), Bool.eq_iff_iff]
  simp only [beq_iff_eq, Bool.and_eq_true, decide_eq_true_eq]
  generalize 2 ^ grX low high = q at *
  have d1 := Nat.div_add_mod low q
  have d2 := Nat.div_add_mod n q
  have d3 := Nat.mod_lt n hp
  rw [Nat.mul_comm] at d1 d2
  rw [h1] at d1
  constructor
  · intro e; omega
  · rintro ⟨a, b⟩
    have : n / q = low / q := by
      apply Nat.div_eq_of_lt_le
      · omega
      · rw [Nat.add_mul]; omega
    rw [this]
theorem rfirst_ok {lo : Bool} {high low : Nat} (h : low ≤ high) (hh : high ≤ topN lo) : okN ⟨low, topN lo - (2 ^ grX low high - 1), lo⟩ := ⟨by simp only; omega, by simp only; omega⟩
theorem rngN_ok0 (lo : Bool) (high : Nat) (hh : high ≤ topN lo) : ∀ d low, high + 1 - low ≤ d → ∀ x ∈ rngN lo high low, okN x
  | 0, low, h => by rw [rngN_end (by omega)]; intro x hx; cases hx
  | d + 1, low, hd => by
    by_cases h : low ≤ high
    · rw [rngN_more h]
      have h2 := Nat.two_pow_pos (grX low high)
      have ih := rngN_ok0 lo high hh d (low + 2 ^ grX low high) (by omega)
      intro x hx
      rcases List.mem_cons.1 hx with rfl | hx
      · exact rfirst_ok h hh
      · exact ih x hx
    · rw [rngN_end h]; intro x hx; cases hx
theorem rngN_ok (lo : Bool) (high low : Nat) (hh : high ≤ topN lo) : ∀ x ∈ rngN lo high low, okN x := rngN_ok0 lo high hh _ low (Nat.le_refl _)
/-- just one lets in a number of the range, none another one -/
theorem rngN_hits0 (lo : Bool) (high n : Nat) (hh : high ≤ topN lo) (hn : n ≤ topN lo) : ∀ d low, high + 1 - low ≤ d → (rngN lo high low).countP (fun x => hitN x lo n) = if low ≤ n ∧ n ≤ high then 1 else 0
  | 0, low, h => by rw [rngN_end (by omega), if_neg (by omega)]; rfl
  | d + 1, low, hd => by
    by_cases h : low ≤ high
    · have h2 := Nat.two_pow_pos (grX low high)
      have ih := rngN_hits0 lo high n hh hn d (low + 2 ^ grX low high) (by omega)
      have h3 := (grX_spec h).2
      rw [rngN_more h, List.countP_cons, ih, hit_first h hh hn]
      generalize 2 ^ grX low high = q at *
      repeat' split
      all_goals try simp only [Bool.and_eq_true, decide_eq_true_eq] at *
      all_goals omega
    · rw [rngN_end h, if_neg (by omega)]; rfl
theorem rngN_hits (lo : Bool) (high low n : Nat) (hh : high ≤ topN lo) (hn : n ≤ topN lo) : (rngN lo high low).countP (fun x => hitN x lo n) = if low ≤ n ∧ n ≤ high then 1 else 0 := rngN_hits0 lo high n hh hn _ low (Nat.le_refl _)
theorem any_count (l : List Fn) (lo : Bool) (n : Nat) : anyN l lo n = decide (0 < l.countP (fun x => hitN x lo n)) := by
  unfold anyN
  rw [Bool.eq_iff_iff]
  simp only [decide_eq_true_eq, List.countP_pos_iff, List.any_eq_true]
theorem count_between (low high : Nat) : ∀ N, high < N → (List.range N).countP (fun n => decide (low ≤ n ∧ n ≤ high)) = high + 1 - low := by
  have hN : ∀ N, (List.range N).countP (fun n => decide (low ≤ n ∧ n ≤ high)) = min N (high + 1) - low := by
    intro N
    induction N with
    | zero => simp
    | succ N ih =>
      rw [List.range_succ, List.countP_append, ih, List.countP_singleton]
      by_cases a : low ≤ N ∧ N ≤ high
      · rw [if_pos (by simpa using a)]; omega
      · rw [if_neg (by simpa using a)]; omega
  intro N h
  rw [hN]
  omega
theorem countP_upto (N : Nat) {p q : Nat → Bool} (h : ∀ n, n < N → p n = q n) : (List.range N).countP p = (List.range N).countP q :=
  List.countP_congr fun n hn => by rw [h n (List.mem_range.1 hn)]
/-- a range's filters let in as many numbers as there are -/
theorem rngN_count (lo : Bool) (high low : Nat) (hh : high ≤ topN lo) : countN (rngN lo high low) lo = high + 1 - low := by
  unfold countN cntN
  have ht := topN_lt lo
  have hte := topN_eq lo
  rw [← count_between low high (2 ^ widN lo) (by omega)]
  apply countP_upto
  intro n hn
  rw [any_count, rngN_hits lo high low n hh (by omega)]
  by_cases a : low ≤ n ∧ n ≤ high
  · rw [if_pos a]; simp [a]
  · rw [if_neg a]; simp only [Nat.lt_irrefl, decide_false]; exact (decide_eq_false a).symm
end Bw
end Go.Proofs.YtfmjhgggoklaoaaDoor
