/- What several rows at a time make on one bus, step by step: plain facts on lists; of no program. -/
import Derived.Test.YtlnkhlifkooohaaGreatDoorWireMath
namespace Go.Proofs.YtlnkhlifkooohaaGreatDoor
namespace Bw
open Bm

/-- who of the first k sends this bit at place n -/
def sends (rows : List (List UInt8)) (lost : List Int) (n : Nat) (i : Nat) : Bool := lost.getD i 0 == -1 && decide (n < (rows.getD i []).length)
def isZ (rows : List (List UInt8)) (n : Nat) (i : Nat) : Bool := (rows.getD i []).getD n 0 == 48
def zerK (rows : List (List UInt8)) (lost : List Int) (n : Nat) : Nat → List Int
  | 0 => []
  | k + 1 => if sends rows lost n k && isZ rows n k then zerK rows lost n k ++ [(k : Int)] else zerK rows lost n k
def oneK (rows : List (List UInt8)) (lost : List Int) (n : Nat) : Nat → List Int
  | 0 => []
  | k + 1 => if sends rows lost n k && !isZ rows n k then oneK rows lost n k ++ [(k : Int)] else oneK rows lost n k
theorem zerK_mem (rows : List (List UInt8)) (lost : List Int) (n : Nat) (x : Int) : ∀ k, x ∈ zerK rows lost n k ↔ ∃ i : Nat, i < k ∧ x = i ∧ sends rows lost n i = true ∧ isZ rows n i = true
  | 0 => by simp [zerK]
  | k + 1 => by
    rw [zerK]
    by_cases h : (sends rows lost n k && isZ rows n k) = true
    · rw [if_pos h, List.mem_append, zerK_mem rows lost n x k, List.mem_singleton]
      rw [Bool.and_eq_true] at h
      constructor
      · rintro (⟨i, h1, h2⟩ | rfl)
        · exact ⟨i, by omega, h2⟩
        · exact ⟨k, by omega, rfl, h⟩
      · rintro ⟨i, h1, h2, h3⟩
        rcases Nat.lt_or_ge i k with hx | hx
        · exact .inl ⟨i, hx, h2, h3⟩
        · have : i = k := by omega
          subst this; exact .inr h2
    · rw [if_neg h, zerK_mem rows lost n x k]
      constructor
      · rintro ⟨i, h1, h2⟩; exact ⟨i, by omega, h2⟩
      · rintro ⟨i, h1, h2, h3⟩
        rcases Nat.lt_or_ge i k with hx | hx
        · exact ⟨i, hx, h2, h3⟩
        · have : i = k := by omega
          subst this; exact absurd (Bool.and_eq_true _ _ ▸ h3) h
theorem oneK_mem (rows : List (List UInt8)) (lost : List Int) (n : Nat) (x : Int) : ∀ k, x ∈ oneK rows lost n k ↔ ∃ i : Nat, i < k ∧ x = i ∧ sends rows lost n i = true ∧ isZ rows n i = false
  | 0 => by simp [oneK]
  | k + 1 => by
    rw [oneK]
    by_cases h : (sends rows lost n k && !isZ rows n k) = true
    · rw [if_pos h, List.mem_append, oneK_mem rows lost n x k, List.mem_singleton]
      rw [Bool.and_eq_true, Bool.not_eq_true'] at h
      constructor
      · rintro (⟨i, h1, h2⟩ | rfl)
        · exact ⟨i, by omega, h2⟩
        · exact ⟨k, by omega, rfl, h⟩
      · rintro ⟨i, h1, h2, h3⟩
        rcases Nat.lt_or_ge i k with hx | hx
        · exact .inl ⟨i, hx, h2, h3⟩
        · have : i = k := by omega
          subst this; exact .inr h2
    · rw [if_neg h, oneK_mem rows lost n x k]
      constructor
      · rintro ⟨i, h1, h2⟩; exact ⟨i, by omega, h2⟩
      · rintro ⟨i, h1, h2, h3⟩
        rcases Nat.lt_or_ge i k with hx | hx
        · exact ⟨i, hx, h2, h3⟩
        · have : i = k := by omega
          subst this
          exact absurd (by rw [h3.1, h3.2]; rfl) h
theorem zerK_len (rows : List (List UInt8)) (lost : List Int) (n : Nat) : ∀ k, (zerK rows lost n k).length ≤ k
  | 0 => by simp [zerK]
  | k + 1 => by rw [zerK]; have := zerK_len rows lost n k; split <;> simp <;> omega
theorem oneK_len (rows : List (List UInt8)) (lost : List Int) (n : Nat) : ∀ k, (oneK rows lost n k).length ≤ k
  | 0 => by simp [oneK]
  | k + 1 => by rw [oneK]; have := oneK_len rows lost n k; split <;> simp <;> omega
/-- each of these gives way at place n -/
def giveK (lost : List Int) (n : Nat) (ones : List Int) : Nat → List Int
  | 0 => lost
  | k + 1 => (giveK lost n ones k).set (ones.getD k 0).toNat n
theorem giveK_len (lost : List Int) (n : Nat) (ones : List Int) : ∀ k, (giveK lost n ones k).length = lost.length
  | 0 => rfl
  | k + 1 => by rw [giveK, List.length_set, giveK_len lost n ones k]
theorem giveK_at (lost : List Int) (n : Nat) (ones : List Int) (hp : ∀ x ∈ ones, 0 ≤ x) (i : Nat) (hi : i < lost.length) : ∀ k, k ≤ ones.length → (giveK lost n ones k).getD i 0 = if (i : Int) ∈ ones.take k then (n : Int) else lost.getD i 0
  | 0, _ => by simp [giveK]
  | k + 1, hk => by
    have hlt : k < ones.length := by omega
    have ih := giveK_at lost n ones hp i hi k (by omega)
    have e : ones.getD k 0 = ones[k] := by simp [List.getD, hlt]
    rw [giveK, List.take_succ_eq_append_getElem hlt, e]
    have h0 := hp ones[k] (List.getElem_mem hlt)
    by_cases hx : ones[k].toNat = i
    · rw [if_pos (by rw [List.mem_append, List.mem_singleton]; right; omega)]
      simp [List.getD, hx, giveK_len, hi]
    · have hne : ¬ (i : Int) = ones[k] := by omega
      have e2 : ((giveK lost n ones k).set ones[k].toNat (n : Int)).getD i 0 = (giveK lost n ones k).getD i 0 := by
        simp [List.getD, List.getElem?_set_ne hx]
      rw [e2, ih]
      by_cases hm : (i : Int) ∈ ones.take k
      · rw [if_pos hm, if_pos (List.mem_append_left _ hm)]
      · rw [if_neg hm, if_neg]
        rw [List.mem_append, List.mem_singleton]
        rintro (h | h)
        · exact hm h
        · exact hne h
/-- who gave way, so many bits having been sent -/
def lostL (rows : List (List UInt8)) (best : List UInt8) (n : Nat) : List Int := rows.map (gaveA best n)
theorem lostL_len (rows : List (List UInt8)) (best : List UInt8) (n : Nat) : (lostL rows best n).length = rows.length := by simp [lostL]
theorem lostL_at (rows : List (List UInt8)) (best : List UInt8) (n i : Nat) (hi : i < rows.length) : (lostL rows best n).getD i 0 = gaveA best n (rows.getD i []) := by
  simp [lostL, List.getD, hi]
theorem row_mem (rows : List (List UInt8)) (i : Nat) (hi : i < rows.length) : rows.getD i [] ∈ rows := by
  have : rows.getD i [] = rows[i] := by simp [List.getD, hi]
  rw [this]; exact List.getElem_mem hi
theorem row_idx {rows : List (List UInt8)} {r : List UInt8} (h : r ∈ rows) : ∃ i, i < rows.length ∧ rows.getD i [] = r := by
  obtain ⟨i, hi, rfl⟩ := List.getElem_of_mem h
  exact ⟨i, hi, by simp [List.getD, hi]⟩
theorem sends_iff (rows : List (List UInt8)) (best : List UInt8) (n i : Nat) (hi : i < rows.length) : sends rows (lostL rows best n) n i = true ↔ gaveA best n (rows.getD i []) = -1 ∧ n < (rows.getD i []).length := by
  unfold sends
  rw [lostL_at rows best n i hi]
  simp
/-- behind the last bit nobody sends -/
theorem none_left {rows : List (List UInt8)} (hA : Apart rows) {best : List UInt8} (hb : best ∈ rows) : zerK rows (lostL rows best best.length) best.length rows.length = [] ∧ oneK rows (lostL rows best best.length) best.length rows.length = [] := by
  have key : ∀ i, i < rows.length → sends rows (lostL rows best best.length) best.length i = true → False := by
    intro i hi h
    obtain ⟨h1, h2⟩ := (sends_iff rows best best.length i hi).1 h
    have e := gave_off hA (row_mem rows i hi) hb (Nat.le_refl _) h1
    rw [e] at h2; omega
  constructor
  · rw [List.eq_nil_iff_forall_not_mem]
    intro x hx
    obtain ⟨i, h1, _, h3, _⟩ := (zerK_mem rows _ _ x rows.length).1 hx
    exact key i h1 h3
  · rw [List.eq_nil_iff_forall_not_mem]
    intro x hx
    obtain ⟨i, h1, _, h3, _⟩ := (oneK_mem rows _ _ x rows.length).1 hx
    exact key i h1 h3
theorem best_sends {rows : List (List UInt8)} {best : List UInt8} (n i : Nat) (hn : n < best.length) (hi : i < rows.length) (h : rows.getD i [] = best) : sends rows (lostL rows best n) n i = true := by
  rw [sends_iff rows best n i hi, h]
  refine ⟨?_, hn⟩
  unfold gaveA
  rw [dif_self, if_neg (by omega)]
/-- where the bus bears a 1 nobody sends a 0, and nobody gives way -/
theorem one_step {rows : List (List UInt8)} (hA : Apart rows) (hrow : ∀ r ∈ rows, rowB r = true) {best : List UInt8} (hL : Least rows best) {n : Nat} (hn : n < best.length) (h1 : best.getD n 0 = 49) :
    zerK rows (lostL rows best n) n rows.length = [] ∧ oneK rows (lostL rows best n) n rows.length ≠ [] ∧ lostL rows best (n + 1) = lostL rows best n := by
  refine ⟨?_, ?_, ?_⟩
  · rw [List.eq_nil_iff_forall_not_mem]
    intro x hx
    obtain ⟨i, hi, _, h3, h4⟩ := (zerK_mem rows _ _ x rows.length).1 hx
    obtain ⟨h5, h6⟩ := (sends_iff rows best n i hi).1 h3
    have := least_one hA hrow hL (row_mem rows i hi) hn h5 h1
    unfold isZ at h4
    rw [this] at h4
    exact absurd h4 (by decide)
  · obtain ⟨i, hi, he⟩ := row_idx hL.1
    have : (i : Int) ∈ oneK rows (lostL rows best n) n rows.length := (oneK_mem rows _ _ _ rows.length).2 ⟨i, hi, rfl, best_sends n i hn hi he, by unfold isZ; rw [he, h1]; decide⟩
    intro h; rw [h] at this; cases this
  · unfold lostL
    refine List.map_congr_left fun r hr => ?_
    rw [gave_next hA hr hL.1 hn]
    by_cases h : gaveA best n r = -1
    · rw [if_neg (fun y => y.2 (by rw [least_one hA hrow hL hr hn h h1, h1]))]
    · rw [if_neg (fun y => h y.1)]
theorem zero_step {rows : List (List UInt8)} (hA : Apart rows) {best : List UInt8} (hb : best ∈ rows) {n : Nat} (hn : n < best.length) (h0 : best.getD n 0 = 48) :
    zerK rows (lostL rows best n) n rows.length ≠ [] ∧ giveK (lostL rows best n) n (oneK rows (lostL rows best n) n rows.length) (oneK rows (lostL rows best n) n rows.length).length = lostL rows best (n + 1) := by
  refine ⟨?_, ?_⟩
  · obtain ⟨i, hi, he⟩ := row_idx hb
    have : (i : Int) ∈ zerK rows (lostL rows best n) n rows.length := (zerK_mem rows _ _ _ rows.length).2 ⟨i, hi, rfl, best_sends n i hn hi he, by unfold isZ; rw [he, h0]; decide⟩
    intro h; rw [h] at this; cases this
  · have hp : ∀ x ∈ oneK rows (lostL rows best n) n rows.length, 0 ≤ x := by
      intro x hx
      obtain ⟨i, _, h2, _⟩ := (oneK_mem rows _ _ x rows.length).1 hx
      omega
    refine List.ext_getElem (by rw [giveK_len, lostL_len, lostL_len]) fun i hi1 hi2 => ?_
    have hi : i < rows.length := by rw [lostL_len] at hi2; exact hi2
    have e1 := giveK_at (lostL rows best n) n _ hp i (by rw [lostL_len]; exact hi) _ (Nat.le_refl (oneK rows (lostL rows best n) n rows.length).length)
    rw [List.take_length] at e1
    have e2 := lostL_at rows best (n + 1) i hi
    have g1 : (giveK (lostL rows best n) n (oneK rows (lostL rows best n) n rows.length) (oneK rows (lostL rows best n) n rows.length).length).getD i 0 = (giveK (lostL rows best n) n (oneK rows (lostL rows best n) n rows.length) (oneK rows (lostL rows best n) n rows.length).length)[i] := by simp [List.getD, hi1]
    have g2 : (lostL rows best (n + 1)).getD i 0 = (lostL rows best (n + 1))[i] := by simp [List.getD, hi2]
    rw [← g1, ← g2, e1, e2, gave_next hA (row_mem rows i hi) hb hn, lostL_at rows best n i hi, h0]
    have hiff : ((i : Int) ∈ oneK rows (lostL rows best n) n rows.length) ↔ (gaveA best n (rows.getD i []) = -1 ∧ (rows.getD i []).getD n 0 ≠ 48) := by
      rw [oneK_mem]
      constructor
      · rintro ⟨j, h1, h2, h3, h4⟩
        have : j = i := by omega
        subst this
        refine ⟨((sends_iff rows best n j hi).1 h3).1, ?_⟩
        unfold isZ at h4
        simpa using h4
      · rintro ⟨h1, h2⟩
        refine ⟨i, hi, rfl, (sends_iff rows best n i hi).2 ⟨h1, (gave_on hA (row_mem rows i hi) hb hn h1).1⟩, ?_⟩
        unfold isZ
        simpa using h2
    by_cases hx : gaveA best n (rows.getD i []) = -1 ∧ (rows.getD i []).getD n 0 ≠ 48
    · rw [if_pos (hiff.2 hx), if_pos hx]
    · rw [if_neg (fun h => hx (hiff.1 h)), if_neg hx]
theorem lost_start (rows : List (List UInt8)) (best : List UInt8) : lostL rows best 0 = List.replicate rows.length (-1) := by
  unfold lostL
  rw [List.eq_replicate_iff]
  refine ⟨by simp, fun x hx => ?_⟩
  obtain ⟨r, _, rfl⟩ := List.mem_map.1 hx
  exact gaveA_zero best r
theorem lost_end (rows : List (List UInt8)) (best : List UInt8) : lostL rows best best.length = rows.map fun r => dif r best := by
  unfold lostL
  exact List.map_congr_left fun r _ => gaveA_all best r _ (Nat.le_refl _)
end Bw
end Go.Proofs.YtlnkhlifkooohaaGreatDoor
