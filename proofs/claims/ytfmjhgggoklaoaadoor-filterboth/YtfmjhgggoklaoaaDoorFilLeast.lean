/- Fewer filters that let in the same numbers; which filters let a number in: plain facts; of no program. -/
import Derived.Test.YtfmjhgggoklaoaaDoorFilRange
namespace Go.Proofs.YtfmjhgggoklaoaaDoor
namespace Bw
/-- the places of those that let a number in, of the first k -/
def inFK (l : List Fn) (lo : Bool) (n : Nat) : Nat → List Int
  | 0 => []
  | k + 1 => inFK l lo n k ++ (if hitN (l.getD k ⟨0, 0, false⟩) lo n = true then [(k : Int)] else [])
def inN (l : List Fn) (lo : Bool) (n : Nat) : List Int := inFK l lo n l.length
theorem inFK_len (l : List Fn) (lo : Bool) (n : Nat) : ∀ k, (inFK l lo n k).length ≤ k
  | 0 => Nat.le_refl _
  | k + 1 => by
    rw [inFK, List.length_append]
    have := inFK_len l lo n k
    split <;> simp <;> omega
/-- filter k makes filter i needless -/
def goesBy (l : List Fn) (i k : Nat) : Bool := if k < i then holdsN (l.getD k ⟨0, 0, false⟩) (l.getD i ⟨0, 0, false⟩) else if i < k then holdsN (l.getD k ⟨0, 0, false⟩) (l.getD i ⟨0, 0, false⟩) && !holdsN (l.getD i ⟨0, 0, false⟩) (l.getD k ⟨0, 0, false⟩) else false
def goesN (l : List Fn) (i : Nat) : Bool := (List.range l.length).any (goesBy l i)
def bareN (x : Fn) : Fn := ⟨x.w &&& x.m, x.m, x.lo⟩
def leastK (l : List Fn) : Nat → List Fn
  | 0 => []
  | k + 1 => leastK l k ++ (if goesN l k = true then [] else [bareN (l.getD k ⟨0, 0, false⟩)])
def leastN (l : List Fn) : List Fn := leastK l l.length
theorem leastK_len (l : List Fn) : ∀ k, (leastK l k).length ≤ k
  | 0 => Nat.le_refl _
  | k + 1 => by
    rw [leastK, List.length_append]
    have := leastK_len l k
    split <;> simp <;> omega
theorem leastK_mem (l : List Fn) (x : Fn) : ∀ k, x ∈ leastK l k ↔ ∃ i, i < k ∧ goesN l i = false ∧ x = bareN (l.getD i ⟨0, 0, false⟩)
  | 0 => by simp [leastK]
  | k + 1 => by
    rw [leastK, List.mem_append, leastK_mem l x k]
    constructor
    · rintro (⟨i, h1, h2, h3⟩ | h)
      · exact ⟨i, by omega, h2, h3⟩
      · split at h
        · cases h
        · rename_i hg
          exact ⟨k, by omega, by simpa using hg, by simpa using h⟩
    · rintro ⟨i, h1, h2, h3⟩
      by_cases e : i = k
      · subst e
        right
        rw [h2]
        simpa using h3
      · exact .inl ⟨i, by omega, h2, h3⟩
theorem hit_bare (x : Fn) (lo : Bool) (n : Nat) : hitN (bareN x) lo n = hitN x lo n := by
  unfold hitN bareN
  simp only
  rw [Nat.and_assoc, Nat.and_self]
theorem bare_ok {x : Fn} (h : okN x) : okN (bareN x) := ⟨Nat.le_trans Nat.and_le_left h.w, h.m⟩
theorem getD_ok {l : List Fn} (h : ∀ x ∈ l, okN x) (i : Nat) : okN (l.getD i ⟨0, 0, false⟩) := by
  by_cases hi : i < l.length
  · have : l.getD i ⟨0, 0, false⟩ = l[i] := by simp [List.getD, hi]
    rw [this]
    exact h _ (List.getElem_mem hi)
  · have : l.getD i ⟨0, 0, false⟩ = ⟨0, 0, false⟩ := by simp [List.getD, List.getElem?_eq_none (Nat.le_of_not_lt hi)]
    rw [this]
    exact ⟨by decide, by decide⟩
theorem least_ok {l : List Fn} (h : ∀ x ∈ l, okN x) : ∀ x ∈ leastN l, okN x := by
  intro x hx
  obtain ⟨i, _, _, rfl⟩ := (leastK_mem l x _).1 hx
  exact bare_ok (getD_ok h i)
theorem holds_hit {x y : Fn} {lo : Bool} {n : Nat} (h : holdsN x y = true) (hy : hitN y lo n = true) : hitN x lo n = true := by
  unfold holdsN at h
  unfold hitN at hy ⊢
  simp only [Bool.and_eq_true, beq_iff_eq] at h hy ⊢
  obtain ⟨h1, h2, h3⟩ := h
  obtain ⟨h4, h5⟩ := hy
  refine ⟨h1.trans h4, Nat.eq_of_testBit_eq fun i => ?_⟩
  have e2 := bit_of h2 i
  have e3 := bit_of h3 i
  have e5 := bit_of h5 i
  simp only [Nat.testBit_and] at e2 e3 e5 ⊢
  revert e2 e3 e5
  cases x.w.testBit i <;> cases x.m.testBit i <;> cases y.w.testBit i <;> cases y.m.testBit i <;> cases n.testBit i <;> decide
theorem holds_le {x y : Fn} (h : holdsN x y = true) : x.m ≤ y.m := by
  unfold holdsN at h
  simp only [Bool.and_eq_true, beq_iff_eq] at h
  rw [← h.2.1]
  exact Nat.and_le_right
theorem holds_turn {x y : Fn} (h : holdsN x y = true) (e : x.m = y.m) : holdsN y x = true := by
  unfold holdsN at h ⊢
  simp only [Bool.and_eq_true, beq_iff_eq] at h ⊢
  obtain ⟨h1, h2, h3⟩ := h
  rw [e] at h3 ⊢
  exact ⟨h1.symm, Nat.and_self _, h3.symm⟩
/-- behind each that lets a number in stands one that stays and does so, too -/
theorem stays_hit (l : List Fn) (lo : Bool) (n : Nat) : ∀ (c i : Nat), i < l.length → (l.getD i ⟨0, 0, false⟩).m * (l.length + 1) + i < c → hitN (l.getD i ⟨0, 0, false⟩) lo n = true →
    ∃ k, k < l.length ∧ goesN l k = false ∧ hitN (l.getD k ⟨0, 0, false⟩) lo n = true
  | 0, i, _, h, _ => absurd h (Nat.not_lt_zero _)
  | c + 1, i, hi, h, hh => by
    by_cases hg : goesN l i = false
    · exact ⟨i, hi, hg, hh⟩
    · have hg' : goesN l i = true := by simpa using hg
      unfold goesN at hg'
      rw [List.any_eq_true] at hg'
      obtain ⟨k, hk, hk2⟩ := hg'
      rw [List.mem_range] at hk
      unfold goesBy at hk2
      split at hk2
      · rename_i hki
        have h1 := holds_le hk2
        refine stays_hit l lo n c k hk ?_ (holds_hit hk2 hh)
        have := Nat.mul_le_mul_right (l.length + 1) h1
        omega
      · split at hk2
        · simp only [Bool.and_eq_true, Bool.not_eq_true'] at hk2
          have h1 := holds_le hk2.1
          have h2 : (l.getD k ⟨0, 0, false⟩).m ≠ (l.getD i ⟨0, 0, false⟩).m := by
            intro e
            rw [holds_turn hk2.1 e] at hk2
            exact absurd hk2.2 (by simp)
          refine stays_hit l lo n c k hk ?_ (holds_hit hk2.1 hh)
          have h3 : (l.getD k ⟨0, 0, false⟩).m + 1 ≤ (l.getD i ⟨0, 0, false⟩).m := by omega
          have := Nat.mul_le_mul_right (l.length + 1) h3
          rw [Nat.add_mul] at this
          omega
        · cases hk2
theorem any_getD (l : List Fn) (lo : Bool) (n : Nat) : anyN l lo n = true ↔ ∃ i, i < l.length ∧ hitN (l.getD i ⟨0, 0, false⟩) lo n = true := by
  unfold anyN
  rw [List.any_eq_true]
  constructor
  · rintro ⟨x, hx, hh⟩
    obtain ⟨i, hi, rfl⟩ := List.mem_iff_getElem.1 hx
    exact ⟨i, hi, by simpa [List.getD, hi] using hh⟩
  · rintro ⟨i, hi, hh⟩
    exact ⟨l[i], List.getElem_mem hi, by simpa [List.getD, hi] using hh⟩
theorem least_any (l : List Fn) (lo : Bool) (n : Nat) : anyN (leastN l) lo n = anyN l lo n := by
  rw [Bool.eq_iff_iff, any_getD l]
  unfold anyN leastN
  rw [List.any_eq_true]
  constructor
  · rintro ⟨x, hx, hh⟩
    obtain ⟨i, hi, _, rfl⟩ := (leastK_mem l x _).1 hx
    rw [hit_bare] at hh
    exact ⟨i, hi, hh⟩
  · rintro ⟨i, hi, hh⟩
    obtain ⟨k, hk, hg, hh⟩ := stays_hit l lo n _ i hi (Nat.lt_succ_self _) hh
    exact ⟨_, (leastK_mem l _ _).2 ⟨k, hk, hg, rfl⟩, by rw [hit_bare]; exact hh⟩
theorem least_count (l : List Fn) (lo : Bool) : countN (leastN l) lo = countN l lo := by
  unfold countN cntN
  exact countP_ext _ (least_any l lo)
theorem inFK_count (l : List Fn) (lo : Bool) (n : Nat) : ∀ k, k ≤ l.length → (inFK l lo n k).length = (l.take k).countP (fun x => hitN x lo n)
  | 0, _ => rfl
  | k + 1, h => by
    have e : l.take (k + 1) = l.take k ++ [l.getD k ⟨0, 0, false⟩] := by
      rw [List.take_succ_eq_append_getElem (by omega)]
      simp [List.getD, show k < l.length by omega]
    rw [inFK, e, List.length_append, List.countP_append, inFK_count l lo n k (by omega), List.countP_singleton]
    split <;> simp
theorem in_count (l : List Fn) (lo : Bool) (n : Nat) : (inN l lo n).length = l.countP (fun x => hitN x lo n) := by
  unfold inN
  rw [inFK_count l lo n _ (Nat.le_refl _), List.take_length]
theorem in_any (l : List Fn) (lo : Bool) (n : Nat) : decide (0 < (inN l lo n).length) = anyN l lo n := by
  rw [in_count, any_count]
theorem inFK_join (a b : List Fn) (lo : Bool) (n : Nat) : ∀ k, k ≤ b.length → inFK (a ++ b) lo n (a.length + k) = inN a lo n ++ (inFK b lo n k).map (fun i => (a.length : Int) + i)
  | 0, _ => by
    have h : ∀ j, j ≤ a.length → inFK (a ++ b) lo n j = inFK a lo n j := by
      intro j
      induction j with
      | zero => intro _; rfl
      | succ j ih =>
        intro hj
        rw [inFK, inFK, ih (by omega)]
        have e : (a ++ b).getD j ⟨0, 0, false⟩ = a.getD j ⟨0, 0, false⟩ := by simp [List.getD, List.getElem?_append_left (show j < a.length by omega)]
        rw [e]
    rw [Nat.add_zero, h _ (Nat.le_refl _)]
    simp [inN, inFK]
  | k + 1, hk => by
    rw [show a.length + (k + 1) = (a.length + k) + 1 by omega, inFK, inFK, inFK_join a b lo n k (by omega)]
    have e : (a ++ b).getD (a.length + k) ⟨0, 0, false⟩ = b.getD k ⟨0, 0, false⟩ := by simp [List.getD, List.getElem?_append_right]
    rw [e]
    split <;> simp
theorem in_join (a b : List Fn) (lo : Bool) (n : Nat) : inN (a ++ b) lo n = inN a lo n ++ (inN b lo n).map (fun i => (a.length : Int) + i) := by
  have := inFK_join a b lo n b.length (Nat.le_refl _)
  unfold inN at this ⊢
  rw [List.length_append]
  exact this
theorem count_mono (a b : List Fn) (lo : Bool) : countN a lo ≤ countN (a ++ b) lo := by
  unfold countN cntN
  apply List.countP_mono_left
  intro n _ h
  unfold anyN at h ⊢
  rw [List.any_append, h]
  rfl
end Bw
end Go.Proofs.YtfmjhgggoklaoaaDoor
