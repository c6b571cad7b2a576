/- Short filters as long ones: plain facts; of no program. -/
import Derived.Test.YtfmjhgggoklaoaaDoorFilLeast
namespace Go.Proofs.YtfmjhgggoklaoaaDoor
namespace Bw
def longF (x : Fn) : Fn := ⟨x.w, x.m ||| 536868864, true⟩
def longK (l : List Fn) : Nat → List Fn
  | 0 => []
  | k + 1 => longK l k ++ (if (l.getD k ⟨0, 0, false⟩).lo = true then [] else [longF (l.getD k ⟨0, 0, false⟩)])
theorem longK_len (l : List Fn) : ∀ k, (longK l k).length ≤ k
  | 0 => Nat.le_refl _
  | k + 1 => by
    rw [longK, List.length_append]
    have := longK_len l k
    split <;> simp <;> omega
theorem longK_mem (l : List Fn) (x : Fn) : ∀ k, x ∈ longK l k ↔ ∃ i, i < k ∧ (l.getD i ⟨0, 0, false⟩).lo = false ∧ x = longF (l.getD i ⟨0, 0, false⟩)
  | 0 => by simp [longK]
  | k + 1 => by
    rw [longK, List.mem_append, longK_mem l x k]
    constructor
    · rintro (⟨i, h1, h2, h3⟩ | h)
      · exact ⟨i, by omega, h2, h3⟩
      · split at h
        · cases h
        · rename_i hg
          exact ⟨k, by omega, by simpa using hg, by simpa using h⟩
    · rintro ⟨i, h1, h2, h3⟩
      by_cases e : i = k
      · subst e
        right
        rw [h2]
        simpa using h3
      · exact .inl ⟨i, by omega, h2, h3⟩
theorem or_high (m : Nat) (h : m < 2048) : (m ||| 536868864) % 2048 = m ∧ (m ||| 536868864) / 2048 = 262143 ∧ m ||| 536868864 ≤ 536870911 := by
  have h1 : (m ||| 536868864) % 2 ^ 11 = m % 2 ^ 11 ||| 536868864 % 2 ^ 11 := Nat.or_mod_two_pow
  have h2 : (m ||| 536868864) / 2 ^ 11 = m / 2 ^ 11 ||| 536868864 / 2 ^ 11 := Nat.or_div_two_pow
  have e1 : m % 2 ^ 11 = m := Nat.mod_eq_of_lt (by omega)
  have e2 : m / 2 ^ 11 = 0 := by omega
  rw [e1, show 536868864 % 2 ^ 11 = 0 by decide, Nat.or_zero] at h1
  rw [e2, show 536868864 / 2 ^ 11 = 262143 by decide, Nat.zero_or] at h2
  have h1' : (m ||| 536868864) % 2048 = m := h1
  have h2' : (m ||| 536868864) / 2048 = 262143 := h2
  omega
theorem long_ok {x : Fn} (h : okN x) (hl : x.lo = false) : okN (longF x) := by
  have h1 := h.w
  have h2 := h.m
  rw [hl] at h1 h2
  have e : topN false = 2047 := rfl
  have e2 : topN true = 536870911 := rfl
  have h3 := or_high x.m (by omega)
  exact ⟨by show x.w ≤ topN true; omega, by show x.m ||| 536868864 ≤ topN true; omega⟩
theorem longK_ok {l : List Fn} (h : ∀ x ∈ l, okN x) (k : Nat) : ∀ x ∈ longK l k, okN x := by
  intro x hx
  obtain ⟨i, _, h2, rfl⟩ := (longK_mem l x k).1 hx
  exact long_ok (getD_ok h i) h2
theorem hit_long {x : Fn} (h : okN x) (hl : x.lo = false) {n : Nat} (hn : n < 2 ^ 29) : hitN (longF x) true n = (decide (n < 2048) && hitN x false n) := by
  have h1 := h.w
  have h2 := h.m
  rw [hl] at h1 h2
  have e : topN false = 2047 := rfl
  obtain ⟨g1, g2, _⟩ := or_high x.m (by omega)
  unfold hitN longF
  simp only [beq_self_eq_true, Bool.true_and, hl]
  have d : ∀ a, a < 2 ^ 29 → (a &&& (x.m ||| 536868864)) / 2048 = a / 2048 ∧ (a &&& (x.m ||| 536868864)) % 2048 = a % 2048 &&& x.m := by
    intro a ha
    have k1 : (a &&& (x.m ||| 536868864)) / 2 ^ 11 = a / 2 ^ 11 &&& (x.m ||| 536868864) / 2 ^ 11 := Nat.and_div_two_pow
    have k2 : (a &&& (x.m ||| 536868864)) % 2 ^ 11 = a % 2 ^ 11 &&& (x.m ||| 536868864) % 2 ^ 11 := Nat.and_mod_two_pow
    have k1' : (a &&& (x.m ||| 536868864)) / 2048 = a / 2048 &&& (x.m ||| 536868864) / 2048 := k1
    have k2' : (a &&& (x.m ||| 536868864)) % 2048 = a % 2048 &&& (x.m ||| 536868864) % 2048 := k2
    rw [g2] at k1'
    rw [g1] at k2'
    refine ⟨?_, k2'⟩
    rw [k1', show 262143 = 2 ^ 18 - 1 by decide, Nat.and_two_pow_sub_one_eq_mod]
    omega
  obtain ⟨w1, w2⟩ := d x.w (by omega)
  obtain ⟨n1, n2⟩ := d n hn
  rw [Nat.mod_eq_of_lt (show x.w < 2048 by omega)] at w2
  rw [Bool.eq_iff_iff]
  simp only [beq_iff_eq, Bool.and_eq_true, decide_eq_true_eq]
  constructor
  · intro hh
    rw [hh] at w1 w2
    have hlt : n < 2048 := by omega
    rw [Nat.mod_eq_of_lt hlt] at n2
    exact ⟨hlt, by omega⟩
  · rintro ⟨hlt, hh⟩
    rw [Nat.mod_eq_of_lt hlt] at n2
    omega
theorem countP_below (M : Nat) (p : Nat → Bool) : ∀ d, (List.range (M + d)).countP (fun n => decide (n < M) && p n) = (List.range M).countP p
  | 0 => countP_upto M fun n hn => by simp [hn]
  | d + 1 => by
    rw [show M + (d + 1) = (M + d) + 1 by omega, List.range_succ, List.countP_append, countP_below M p d, List.countP_singleton]
    simp
    intro h
    omega
/-- as long ones they let in as many -/
theorem long_count {l : List Fn} (h : ∀ x ∈ l, okN x) : countN (longK l l.length) true = countN l false := by
  unfold countN cntN
  rw [← countP_below (2 ^ widN false) (anyN l false) (2 ^ 29 - 2 ^ 11), show 2 ^ widN false + (2 ^ 29 - 2 ^ 11) = 2 ^ widN true from rfl]
  apply countP_upto
  intro n hn
  have hn' : n < 2 ^ 29 := hn
  rw [show 2 ^ widN false = 2048 from rfl, Bool.eq_iff_iff, Bool.and_eq_true, any_getD l]
  unfold anyN
  rw [List.any_eq_true]
  constructor
  · rintro ⟨x, hx, hh⟩
    obtain ⟨i, hi, h2, rfl⟩ := (longK_mem l x _).1 hx
    rw [hit_long (getD_ok h i) h2 hn', Bool.and_eq_true] at hh
    exact ⟨hh.1, i, hi, hh.2⟩
  · rintro ⟨h1, i, hi, hh⟩
    have h2 : (l.getD i ⟨0, 0, false⟩).lo = false := by
      have hh' := hh
      unfold hitN at hh'
      simp only [Bool.and_eq_true, beq_iff_eq] at hh'
      exact hh'.1
    exact ⟨_, (longK_mem l _ _).2 ⟨i, hi, h2, rfl⟩, by rw [hit_long (getD_ok h i) h2 hn', h1, hh]; rfl⟩
end Bw
end Go.Proofs.YtfmjhgggoklaoaaDoor
