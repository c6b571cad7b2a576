/- Plain facts on rows of which some bits are turned, one after the other; of no program. -/
import Derived.Test.YtdhmjbnpdmneiabDoorCrcSees
import Derived.Test.YtdhmjbnpdmneiabDoorKindMath
namespace Go.Proofs.YtdhmjbnpdmneiabDoor.Cm
open Bm

/-- l, its bits from place i on turned by the first j of p -/
def flipJ (l : List UInt8) (i : Nat) (p : List UInt8) (j : Nat) : List UInt8 := l.mapIdx fun k c => if i ≤ k ∧ k < i + j then xorB c (p.getD (k - i) 0) else c
theorem flipJ_len (l : List UInt8) (i : Nat) (p : List UInt8) (j : Nat) : (flipJ l i p j).length = l.length := by simp [flipJ]
theorem flipJ_zero (l : List UInt8) (i : Nat) (p : List UInt8) : flipJ l i p 0 = l := by
  apply List.ext_getElem?
  intro k
  rw [flipJ, List.getElem?_mapIdx]
  have : ¬ (i ≤ k ∧ k < i + 0) := by omega
  simp only [this, if_false]
  cases l[k]? <;> rfl
theorem flipJ_at (l : List UInt8) (i : Nat) (p : List UInt8) (j : Nat) : (flipJ l i p j)[i + j]? = l[i + j]? := by
  rw [flipJ, List.getElem?_mapIdx]
  have : ¬ (i ≤ i + j ∧ i + j < i + j) := by omega
  simp only [this, if_false]
  cases l[i + j]? <;> rfl
theorem flipJ_succ (l : List UInt8) (i : Nat) (p : List UInt8) (j : Nat) (h : i + j < l.length) : flipJ l i p (j + 1) = (flipJ l i p j).set (i + j) (xorB (l.getD (i + j) 0) (p.getD j 0)) := by
  apply List.ext_getElem?
  intro k
  rw [List.getElem?_set, flipJ_len]
  by_cases hk : i + j = k
  · subst hk
    rw [if_pos rfl, if_pos h, flipJ, List.getElem?_mapIdx, List.getElem?_eq_getElem h]
    have : i ≤ i + j ∧ i + j < i + (j + 1) := by omega
    have e : i + j - i = j := by omega
    simp [this, e, List.getD, List.getElem?_eq_getElem h]
  · rw [if_neg hk, flipJ, flipJ, List.getElem?_mapIdx, List.getElem?_mapIdx]
    by_cases h1 : i ≤ k ∧ k < i + j
    · have h2 : i ≤ k ∧ k < i + (j + 1) := by omega
      simp only [h1, h2, and_self, if_true]
    · have h2 : ¬ (i ≤ k ∧ k < i + (j + 1)) := by omega
      simp only [h1, h2, if_false]
theorem flipJ_same (l : List UInt8) (i : Nat) (p : List UInt8) (j : Nat) (h : p.getD j 0 ≠ 49) : flipJ l i p (j + 1) = flipJ l i p j := by
  apply List.ext_getElem?
  intro k
  rw [flipJ, flipJ, List.getElem?_mapIdx, List.getElem?_mapIdx]
  by_cases hk : k = i + j
  · subst hk
    have h1 : ¬ (i ≤ i + j ∧ i + j < i + j) := by omega
    have e : i + j - i = j := by omega
    simp only [h1, if_false, e, xorB, h, ite_self]
  · by_cases h1 : i ≤ k ∧ k < i + j
    · have h2 : i ≤ k ∧ k < i + (j + 1) := by omega
      simp only [h1, h2, and_self, if_true]
    · have h2 : ¬ (i ≤ k ∧ k < i + (j + 1)) := by omega
      simp only [h1, h2, if_false]
theorem xorL_zip : ∀ (a b : List UInt8), xorL a b = List.zipWith xorB a b
  | [], [] => rfl
  | [], _ :: _ => rfl
  | _ :: _, [] => rfl
  | c :: a, d :: b => by rw [xorL, List.zipWith_cons_cons, xorL_zip a b]
theorem flipJ_full (l : List UInt8) (i : Nat) (p : List UInt8) (h : i + p.length ≤ l.length) : flipJ l i p p.length = l.take i ++ (xorL ((l.drop i).take p.length) p ++ l.drop (i + p.length)) := by
  have hx : (xorL ((l.drop i).take p.length) p).length = p.length := by rw [xorL_zip]; simp; omega
  apply List.ext_getElem?
  intro k
  rw [flipJ, List.getElem?_mapIdx]
  by_cases h1 : k < i
  · have hn : ¬ (i ≤ k ∧ k < i + p.length) := by omega
    rw [List.getElem?_append_left (by simp; omega), List.getElem?_take_of_lt h1]
    simp only [hn, if_false]
    cases l[k]? <;> rfl
  · have ht : (l.take i).length = i := by simp; omega
    rw [List.getElem?_append_right (by omega), ht]
    by_cases h2 : k < i + p.length
    · have hy : i ≤ k ∧ k < i + p.length := by omega
      rw [List.getElem?_append_left (by omega), xorL_zip, List.getElem?_zipWith, List.getElem?_take_of_lt (by omega), List.getElem?_drop]
      have e : i + (k - i) = k := by omega
      have hk : k < l.length := by omega
      have hp : k - i < p.length := by omega
      rw [e, List.getElem?_eq_getElem hk, List.getElem?_eq_getElem hp]
      simp [hy, List.getD, hp]
    · have hn : ¬ (i ≤ k ∧ k < i + p.length) := by omega
      rw [List.getElem?_append_right (by omega), hx, List.getElem?_drop]
      have e : i + p.length + (k - i - p.length) = k := by omega
      rw [e]
      simp only [hn, if_false]
      cases l[k]? <;> rfl
theorem flipJ_all (a b : List UInt8) (h : a.length = b.length) : flipJ a 0 b b.length = xorL a b := by
  rw [flipJ_full a 0 b (by omega)]
  simp [← h]

theorem val_cat {A B : List UInt8} (h : rowB B = true) : val (A ++ B) = val A * 2 ^ B.length ^^^ val B := by rw [val_append, hi_xor _ _ _ (val_lt _ h)]
theorem xor_mid (x m b q : Nat) : (x ^^^ (m ^^^ b)) ^^^ (x ^^^ ((m ^^^ q) ^^^ b)) = q := by
  apply Nat.eq_of_testBit_eq
  intro i
  simp only [Nat.testBit_xor]
  cases x.testBit i <;> cases m.testBit i <;> cases b.testBit i <;> cases q.testBit i <;> rfl
theorem flip_val (A M B p : List UInt8) (hM : rowB M = true) (hB : rowB B = true) (hp : rowB p = true) (hl : M.length = p.length) : val (A ++ (M ++ B)) ^^^ val (A ++ (xorL M p ++ B)) = val p * 2 ^ B.length := by
  have hM' := xorL_row M p hl hM hp
  have r1 : rowB (M ++ B) = true := by rw [rowB_append, hM, hB]; rfl
  have r2 : rowB (xorL M p ++ B) = true := by rw [rowB_append, hM', hB]; rfl
  have e : (xorL M p ++ B).length = (M ++ B).length := by rw [List.length_append, List.length_append, xorL_len M p hl]
  rw [val_cat r1, val_cat r2, val_cat hB, val_cat hB, e, xorL_val M p hl hM hp, shift_xor, xor_mid]
theorem val_one {p : List UInt8} (hp : rowB p = true) (h : (49 : UInt8) ∈ p) : val p ≠ 0 := by
  obtain ⟨a, b, rfl⟩ := List.append_of_mem h
  rw [val_append, val_cons]
  have : 0 < 2 ^ b.length := Nat.two_pow_pos _
  have e : dig 49 = 1 := rfl
  rw [e]
  omega
/-- of a row that ends with its sum, bits turned within as many as the sum has: it doesn't any more -/
theorem flip_sees (k : Nat) (hk : k ≤ 4) (l t p : List UInt8) (i : Nat) (hl : rowB l = true) (ht : rowB t = true) (hp : rowB p = true) (h49 : (49 : UInt8) ∈ p) (hps : p.length ≤ kS k) (hts : t.length = kS k)
    (hi : i + p.length ≤ l.length + kS k) (h : val t = sumV k l) : rowB (flipJ (l ++ t) i p p.length) = true ∧ val ((flipJ (l ++ t) i p p.length).drop l.length) ≠ sumV k ((flipJ (l ++ t) i p p.length).take l.length) := by
  obtain ⟨h8, _, _, hpP, hf, he, _⟩ := kinds_ok k hk
  have hlen : (l ++ t).length = l.length + kS k := by rw [List.length_append, hts]
  have hrow : rowB (l ++ t) = true := by rw [rowB_append, hl, ht]; rfl
  have hM : rowB (((l ++ t).drop i).take p.length) = true := rowB_take (by simp only [rowB, List.all_eq_true] at hrow ⊢; intro x hx; exact hrow x (List.mem_of_mem_drop hx)) _
  have hB : rowB ((l ++ t).drop (i + p.length)) = true := by simp only [rowB, List.all_eq_true] at hrow ⊢; intro x hx; exact hrow x (List.mem_of_mem_drop hx)
  have hlM : (((l ++ t).drop i).take p.length).length = p.length := by rw [List.length_take, List.length_drop]; omega
  have hf' := flipJ_full (l ++ t) i p (by omega)
  have hr' : rowB (flipJ (l ++ t) i p p.length) = true := by
    rw [hf', rowB_append, rowB_append, rowB_take hrow, xorL_row _ _ hlM hM hp, hB]; rfl
  refine ⟨hr', ?_⟩
  have hv := flip_val ((l ++ t).take i) _ _ p hM hB hp hlM
  have e1 : (l ++ t).take i ++ (((l ++ t).drop i).take p.length ++ (l ++ t).drop (i + p.length)) = l ++ t := by
    rw [← List.drop_drop, List.take_append_drop, List.take_append_drop]
  rw [e1, ← hf'] at hv
  have hll := flipJ_len (l ++ t) i p p.length
  generalize flipJ (l ++ t) i p p.length = r at *
  have e2 : r.take l.length ++ r.drop l.length = r := List.take_append_drop _ _
  rw [← e2] at hv hr'
  rw [rowB_append, Bool.and_eq_true] at hr'
  have hq : val p < 2 ^ kS k := Nat.lt_of_lt_of_le (val_lt p hp) (Nat.pow_le_pow_right (by omega) hps)
  exact sees (kS k) (kP k) (kF k) (kE k) (by omega) hpP (kinds_odd k hk) hf l t _ _ hl ht hr'.1 hr'.2 (by rw [List.length_take]; omega) hts (by rw [List.length_drop]; omega) h (val p) _ (val_one hp h49) hq hv
/-- the sums of three rows as long as one another, all turned by one another -/
theorem sumV_adds (k : Nat) (hk : k ≤ 4) (a b c : List UInt8) (h1 : a.length = b.length) (h2 : b.length = c.length) (ha : rowB a = true) (hb : rowB b = true) (hc : rowB c = true) :
    sumV k (xorL (xorL a b) c) = sumV k a ^^^ sumV k b ^^^ sumV k c := by
  obtain ⟨h8, _, _, hp, hf, he, _⟩ := kinds_ok k hk
  have h := crc_lin3 (kS k) (kP k) (by omega) hp a b c (kF k) (kF k) (kF k) h1 h2 ha hb hc hf hf hf
  rw [xor3_self] at h
  unfold sumV
  rw [h]
  apply Nat.eq_of_testBit_eq
  intro i
  simp only [Nat.testBit_xor]
  generalize (crcR (kS k) (kP k) (kF k) a).testBit i = x
  generalize (crcR (kS k) (kP k) (kF k) b).testBit i = y
  generalize (crcR (kS k) (kP k) (kF k) c).testBit i = z
  generalize (kE k).testBit i = u
  cases x <;> cases y <;> cases z <;> cases u <;> rfl
end Go.Proofs.YtdhmjbnpdmneiabDoor.Cm
