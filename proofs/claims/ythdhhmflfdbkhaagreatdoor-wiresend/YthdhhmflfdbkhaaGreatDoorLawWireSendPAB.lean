/- Joined out of our texts: WireSendM, WireIdx, NumRow, WEach, FrName, FrHead, FrCount, StepMath, CheckNext, CheckOf, CheckSm, StuffAdd. -/
import Derived.Test.YthdhhmflfdbkhaaGreatDoorLawWireSendPAA
import Derived.Test.YthdhhmflfdbkhaaGreatDoorBase8
import Derived.BigQuiet
import Derived.Lib.QuietBelow
import Derived.Test.YthdhhmflfdbkhaaGreatDoorLawWireSendRAQ
import Derived.Test.YthdhhmflfdbkhaaGreatDoorKindMath
import Derived.Test.YthdhhmflfdbkhaaGreatDoorSumRow
import Derived.Deep.RegionWith
import Derived.Test.YthdhhmflfdbkhaaGreatDoorLawWireSendRAB
import Derived.Test.YthdhhmflfdbkhaaGreatDoorStuffMath
import Derived.OneCell
/- What several rows at a time make on one bus, step by step: plain facts on lists; of no program. -/
namespace Go.Proofs.YthdhhmflfdbkhaaGreatDoor
namespace Bw
open Bm

/-- who of the first k sends this bit at place n -/
def sends (rows : List (List UInt8)) (lost : List Int) (n : Nat) (i : Nat) : Bool := lost.getD i 0 == -1 && decide (n < (rows.getD i []).length)
def isZ (rows : List (List UInt8)) (n : Nat) (i : Nat) : Bool := (rows.getD i []).getD n 0 == 48
def zerK (rows : List (List UInt8)) (lost : List Int) (n : Nat) : Nat → List Int
  | 0 => []
  | k + 1 => if sends rows lost n k && isZ rows n k then zerK rows lost n k ++ [(k : Int)] else zerK rows lost n k
def oneK (rows : List (List UInt8)) (lost : List Int) (n : Nat) : Nat → List Int
  | 0 => []
  | k + 1 => if sends rows lost n k && !isZ rows n k then oneK rows lost n k ++ [(k : Int)] else oneK rows lost n k
theorem zerK_mem (rows : List (List UInt8)) (lost : List Int) (n : Nat) (x : Int) : ∀ k, x ∈ zerK rows lost n k ↔ ∃ i : Nat, i < k ∧ x = i ∧ sends rows lost n i = true ∧ isZ rows n i = true
  | 0 => by simp [zerK]
  | k + 1 => by
    rw [zerK]
    by_cases h : (sends rows lost n k && isZ rows n k) = true
    · rw [if_pos h, List.mem_append, zerK_mem rows lost n x k, List.mem_singleton]
      rw [Bool.and_eq_true] at h
      constructor
      · rintro (⟨i, h1, h2⟩ | rfl)
        · exact ⟨i, by omega, h2⟩
        · exact ⟨k, by omega, rfl, h⟩
      · rintro ⟨i, h1, h2, h3⟩
        rcases Nat.lt_or_ge i k with hx | hx
        · exact .inl ⟨i, hx, h2, h3⟩
        · have : i = k := by omega
          subst this; exact .inr h2
    · rw [if_neg h, zerK_mem rows lost n x k]
      constructor
      · rintro ⟨i, h1, h2⟩; exact ⟨i, by omega, h2⟩
      · rintro ⟨i, h1, h2, h3⟩
        rcases Nat.lt_or_ge i k with hx | hx
        · exact ⟨i, hx, h2, h3⟩
        · have : i = k := by omega
          subst this; exact absurd (Bool.and_eq_true _ _ ▸ h3) h
theorem oneK_mem (rows : List (List UInt8)) (lost : List Int) (n : Nat) (x : Int) : ∀ k, x ∈ oneK rows lost n k ↔ ∃ i : Nat, i < k ∧ x = i ∧ sends rows lost n i = true ∧ isZ rows n i = false
  | 0 => by simp [oneK]
  | k + 1 => by
    rw [oneK]
    by_cases h : (sends rows lost n k && !isZ rows n k) = true
    · rw [if_pos h, List.mem_append, oneK_mem rows lost n x k, List.mem_singleton]
      rw [Bool.and_eq_true, Bool.not_eq_true'] at h
      constructor
      · rintro (⟨i, h1, h2⟩ | rfl)
        · exact ⟨i, by omega, h2⟩
        · exact ⟨k, by omega, rfl, h⟩
      · rintro ⟨i, h1, h2, h3⟩
        rcases Nat.lt_or_ge i k with hx | hx
        · exact .inl ⟨i, hx, h2, h3⟩
        · have : i = k := by omega
          subst this; exact .inr h2
    · rw [if_neg h, oneK_mem rows lost n x k]
      constructor
      · rintro ⟨i, h1, h2⟩; exact ⟨i, by omega, h2⟩
      · rintro ⟨i, h1, h2, h3⟩
        rcases Nat.lt_or_ge i k with hx | hx
        · exact ⟨i, hx, h2, h3⟩
        · have : i = k := by omega
          subst this
          exact absurd (by rw [h3.1, h3.2]; rfl) h
theorem zerK_len (rows : List (List UInt8)) (lost : List Int) (n : Nat) : ∀ k, (zerK rows lost n k).length ≤ k
  | 0 => by simp [zerK]
  | k + 1 => by rw [zerK]; have := zerK_len rows lost n k; split <;> simp <;> omega
theorem oneK_len (rows : List (List UInt8)) (lost : List Int) (n : Nat) : ∀ k, (oneK rows lost n k).length ≤ k
  | 0 => by simp [oneK]
  | k + 1 => by rw [oneK]; have := oneK_len rows lost n k; split <;> simp <;> omega
/-- each of these gives way at place n -/
def giveK (lost : List Int) (n : Nat) (ones : List Int) : Nat → List Int
  | 0 => lost
  | k + 1 => (giveK lost n ones k).set (ones.getD k 0).toNat n
theorem giveK_len (lost : List Int) (n : Nat) (ones : List Int) : ∀ k, (giveK lost n ones k).length = lost.length
  | 0 => rfl
  | k + 1 => by rw [giveK, List.length_set, giveK_len lost n ones k]
theorem giveK_at (lost : List Int) (n : Nat) (ones : List Int) (hp : ∀ x ∈ ones, 0 ≤ x) (i : Nat) (hi : i < lost.length) : ∀ k, k ≤ ones.length → (giveK lost n ones k).getD i 0 = if (i : Int) ∈ ones.take k then (n : Int) else lost.getD i 0
  | 0, _ => by simp [giveK]
  | k + 1, hk => by
    have hlt : k < ones.length := by omega
    have ih := giveK_at lost n ones hp i hi k (by omega)
    have e : ones.getD k 0 = ones[k] := by simp [List.getD, hlt]
    rw [giveK, List.take_succ_eq_append_getElem hlt, e]
    have h0 := hp ones[k] (List.getElem_mem hlt)
    by_cases hx : ones[k].toNat = i
    · rw [if_pos (by rw [List.mem_append, List.mem_singleton]; right; omega)]
      simp [List.getD, hx, giveK_len, hi]
    · have hne : ¬ (i : Int) = ones[k] := by omega
      have e2 : ((giveK lost n ones k).set ones[k].toNat (n : Int)).getD i 0 = (giveK lost n ones k).getD i 0 := by
        simp [List.getD, List.getElem?_set_ne hx]
      rw [e2, ih]
      by_cases hm : (i : Int) ∈ ones.take k
      · rw [if_pos hm, if_pos (List.mem_append_left _ hm)]
      · rw [if_neg hm, if_neg]
        rw [List.mem_append, List.mem_singleton]
        rintro (h | h)
        · exact hm h
        · exact hne h
/-- who gave way, so many bits having been sent -/
def lostL (rows : List (List UInt8)) (best : List UInt8) (n : Nat) : List Int := rows.map (gaveA best n)
theorem lostL_len (rows : List (List UInt8)) (best : List UInt8) (n : Nat) : (lostL rows best n).length = rows.length := by simp [lostL]
theorem lostL_at (rows : List (List UInt8)) (best : List UInt8) (n i : Nat) (hi : i < rows.length) : (lostL rows best n).getD i 0 = gaveA best n (rows.getD i []) := by
  simp [lostL, List.getD, hi]
theorem row_mem (rows : List (List UInt8)) (i : Nat) (hi : i < rows.length) : rows.getD i [] ∈ rows := by
  have : rows.getD i [] = rows[i] := by simp [List.getD, hi]
  rw [this]; exact List.getElem_mem hi
theorem row_idx {rows : List (List UInt8)} {r : List UInt8} (h : r ∈ rows) : ∃ i, i < rows.length ∧ rows.getD i [] = r := by
  obtain ⟨i, hi, rfl⟩ := List.getElem_of_mem h
  exact ⟨i, hi, by simp [List.getD, hi]⟩
theorem sends_iff (rows : List (List UInt8)) (best : List UInt8) (n i : Nat) (hi : i < rows.length) : sends rows (lostL rows best n) n i = true ↔ gaveA best n (rows.getD i []) = -1 ∧ n < (rows.getD i []).length := by
  unfold sends
  rw [lostL_at rows best n i hi]
  simp
/-- behind the last bit nobody sends -/
theorem none_left {rows : List (List UInt8)} (hA : Apart rows) {best : List UInt8} (hb : best ∈ rows) : zerK rows (lostL rows best best.length) best.length rows.length = [] ∧ oneK rows (lostL rows best best.length) best.length rows.length = [] := by
  have key : ∀ i, i < rows.length → sends rows (lostL rows best best.length) best.length i = true → False := by
    intro i hi h
    obtain ⟨h1, h2⟩ := (sends_iff rows best best.length i hi).1 h
    have e := gave_off hA (row_mem rows i hi) hb (Nat.le_refl _) h1
    rw [e] at h2; omega
  constructor
  · rw [List.eq_nil_iff_forall_not_mem]
    intro x hx
    obtain ⟨i, h1, _, h3, _⟩ := (zerK_mem rows _ _ x rows.length).1 hx
    exact key i h1 h3
  · rw [List.eq_nil_iff_forall_not_mem]
    intro x hx
    obtain ⟨i, h1, _, h3, _⟩ := (oneK_mem rows _ _ x rows.length).1 hx
    exact key i h1 h3
theorem best_sends {rows : List (List UInt8)} {best : List UInt8} (n i : Nat) (hn : n < best.length) (hi : i < rows.length) (h : rows.getD i [] = best) : sends rows (lostL rows best n) n i = true := by
  rw [sends_iff rows best n i hi, h]
  refine ⟨?_, hn⟩
  unfold gaveA
  rw [dif_self, if_neg (by omega)]
/-- where the bus bears a 1 nobody sends a 0, and nobody gives way -/
theorem one_step {rows : List (List UInt8)} (hA : Apart rows) (hrow : ∀ r ∈ rows, rowB r = true) {best : List UInt8} (hL : Least rows best) {n : Nat} (hn : n < best.length) (h1 : best.getD n 0 = 49) :
    zerK rows (lostL rows best n) n rows.length = [] ∧ oneK rows (lostL rows best n) n rows.length ≠ [] ∧ lostL rows best (n + 1) = lostL rows best n := by
  refine ⟨?_, ?_, ?_⟩
  · rw [List.eq_nil_iff_forall_not_mem]
    intro x hx
    obtain ⟨i, hi, _, h3, h4⟩ := (zerK_mem rows _ _ x rows.length).1 hx
    obtain ⟨h5, h6⟩ := (sends_iff rows best n i hi).1 h3
    have := least_one hA hrow hL (row_mem rows i hi) hn h5 h1
    unfold isZ at h4
    rw [this] at h4
    exact absurd h4 (by decide)
  · obtain ⟨i, hi, he⟩ := row_idx hL.1
    have : (i : Int) ∈ oneK rows (lostL rows best n) n rows.length := (oneK_mem rows _ _ _ rows.length).2 ⟨i, hi, rfl, best_sends n i hn hi he, by unfold isZ; rw [he, h1]; decide⟩
    intro h; rw [h] at this; cases this
  · unfold lostL
    refine List.map_congr_left fun r hr => ?_
    rw [gave_next hA hr hL.1 hn]
    by_cases h : gaveA best n r = -1
    · rw [if_neg (fun y => y.2 (by rw [least_one hA hrow hL hr hn h h1, h1]))]
    · rw [if_neg (fun y => h y.1)]
theorem zero_step {rows : List (List UInt8)} (hA : Apart rows) {best : List UInt8} (hb : best ∈ rows) {n : Nat} (hn : n < best.length) (h0 : best.getD n 0 = 48) :
    zerK rows (lostL rows best n) n rows.length ≠ [] ∧ giveK (lostL rows best n) n (oneK rows (lostL rows best n) n rows.length) (oneK rows (lostL rows best n) n rows.length).length = lostL rows best (n + 1) := by
  refine ⟨?_, ?_⟩
  · obtain ⟨i, hi, he⟩ := row_idx hb
    have : (i : Int) ∈ zerK rows (lostL rows best n) n rows.length := (zerK_mem rows _ _ _ rows.length).2 ⟨i, hi, rfl, best_sends n i hn hi he, by unfold isZ; rw [he, h0]; decide⟩
    intro h; rw [h] at this; cases this
  · have hp : ∀ x ∈ oneK rows (lostL rows best n) n rows.length, 0 ≤ x := by
      intro x hx
      obtain ⟨i, _, h2, _⟩ := (oneK_mem rows _ _ x rows.length).1 hx
      omega
    refine List.ext_getElem (by rw [giveK_len, lostL_len, lostL_len]) fun i hi1 hi2 => ?_
    have hi : i < rows.length := by rw [lostL_len] at hi2; exact hi2
    have e1 := giveK_at (lostL rows best n) n _ hp i (by rw [lostL_len]; exact hi) _ (Nat.le_refl (oneK rows (lostL rows best n) n rows.length).length)
    rw [List.take_length] at e1
    have e2 := lostL_at rows best (n + 1) i hi
    have g1 : (giveK (lostL rows best n) n (oneK rows (lostL rows best n) n rows.length) (oneK rows (lostL rows best n) n rows.length).length).getD i 0 = (giveK (lostL rows best n) n (oneK rows (lostL rows best n) n rows.length) (oneK rows (lostL rows best n) n rows.length).length)[i] := by simp [List.getD, hi1]
    have g2 : (lostL rows best (n + 1)).getD i 0 = (lostL rows best (n + 1))[i] := by simp [List.getD, hi2]
    rw [← g1, ← g2, e1, e2, gave_next hA (row_mem rows i hi) hb hn, lostL_at rows best n i hi, h0]
    have hiff : ((i : Int) ∈ oneK rows (lostL rows best n) n rows.length) ↔ (gaveA best n (rows.getD i []) = -1 ∧ (rows.getD i []).getD n 0 ≠ 48) := by
      rw [oneK_mem]
      constructor
      · rintro ⟨j, h1, h2, h3, h4⟩
        have : j = i := by omega
        subst this
        refine ⟨((sends_iff rows best n j hi).1 h3).1, ?_⟩
        unfold isZ at h4
        simpa using h4
      · rintro ⟨h1, h2⟩
        refine ⟨i, hi, rfl, (sends_iff rows best n i hi).2 ⟨h1, (gave_on hA (row_mem rows i hi) hb hn h1).1⟩, ?_⟩
        unfold isZ
        simpa using h2
    by_cases hx : gaveA best n (rows.getD i []) = -1 ∧ (rows.getD i []).getD n 0 ≠ 48
    · rw [if_pos (hiff.2 hx), if_pos hx]
    · rw [if_neg (fun h => hx (hiff.1 h)), if_neg hx]
theorem lost_start (rows : List (List UInt8)) (best : List UInt8) : lostL rows best 0 = List.replicate rows.length (-1) := by
  unfold lostL
  rw [List.eq_replicate_iff]
  refine ⟨by simp, fun x hx => ?_⟩
  obtain ⟨r, _, rfl⟩ := List.mem_map.1 hx
  exact gaveA_zero best r
theorem lost_end (rows : List (List UInt8)) (best : List UInt8) : lostL rows best best.length = rows.map fun r => dif r best := by
  unfold lostL
  exact List.map_congr_left fun r _ => gaveA_all best r _ (Nat.le_refl _)
end Bw
end Go.Proofs.YthdhhmflfdbkhaaGreatDoor

/- Where something stands first in a list, and whether it stands there once: plain facts on lists; of no program. -/
namespace Go.Proofs.YthdhhmflfdbkhaaGreatDoor
namespace Bw
open Bm

/-- where v stands first, or -1 -/
def idxG {α : Type} [DecidableEq α] : List α → α → Int
  | [], _ => -1
  | x :: xs, v => if x = v then 0 else if idxG xs v = -1 then -1 else idxG xs v + 1
theorem idxG_ge {α : Type} [DecidableEq α] (xs : List α) (v : α) : -1 ≤ idxG xs v ∧ idxG xs v < xs.length := by
  induction xs with
  | nil => simp [idxG]
  | cons x xs ih =>
    rw [idxG, List.length_cons]
    split
    · omega
    · split <;> omega
theorem idxG_app {α : Type} [DecidableEq α] (a b : List α) (v : α) (h : v ∉ a) : idxG (a ++ b) v = if idxG b v = -1 then -1 else idxG b v + a.length := by
  induction a with
  | nil => simp
  | cons x a ih =>
    have h1 : x ≠ v := fun e => h (by rw [e]; exact List.mem_cons_self)
    have h2 : v ∉ a := fun e => h (List.mem_cons_of_mem _ e)
    have hb := idxG_ge b v
    rw [List.cons_append, idxG, if_neg h1, ih h2, List.length_cons]
    split
    · simp
    · rw [if_neg (by omega)]; omega
theorem idxG_at {α : Type} [DecidableEq α] (a b : List α) (v : α) (h : v ∉ a) : idxG (a ++ v :: b) v = a.length := by
  rw [idxG_app a _ v h, idxG, if_pos rfl]; simp
theorem idxG_none {α : Type} [DecidableEq α] (a : List α) (v : α) (h : v ∉ a) : idxG a v = -1 := by
  have := idxG_app a [] v h
  simpa [idxG] using this
theorem firstG {α : Type} [DecidableEq α] {xs : List α} {v : α} (h : v ∈ xs) : ∃ a b, xs = a ++ v :: b ∧ v ∉ a := by
  induction xs with
  | nil => cases h
  | cons x xs ih =>
    by_cases e : x = v
    · exact ⟨[], xs, by rw [e]; rfl, by simp⟩
    · have h' : v ∈ xs := by
        rcases List.mem_cons.1 h with h | h
        · exact absurd h.symm e
        · exact h
      obtain ⟨a, b, rfl, ha⟩ := ih h'
      exact ⟨x :: a, b, rfl, by
        intro hm
        rcases List.mem_cons.1 hm with hm | hm
        · exact e hm.symm
        · exact ha hm⟩
theorem idxG_hit {α : Type} [DecidableEq α] (xs : List α) (v d : α) (j : Nat) (hj : j < xs.length) (h : v ∉ xs.take j) (he : v = xs.getD j d) : idxG xs v = j := by
  have e1 : xs = xs.take j ++ xs.drop j := (List.take_append_drop j xs).symm
  have e2 : xs.drop j = v :: xs.drop (j + 1) := by rw [List.drop_eq_getElem_cons hj, he]; simp [List.getD, hj]
  have e3 := idxG_at (xs.take j) (xs.drop (j + 1)) v h
  rw [← e2, ← e1, List.length_take] at e3
  omega
theorem idxG_next {α : Type} [DecidableEq α] (xs : List α) (v d : α) (j : Nat) (hj : j < xs.length) (h : v ∉ xs.take j) (he : v ≠ xs.getD j d) : v ∉ xs.take (j + 1) := by
  rw [List.take_succ_eq_append_getElem hj, List.mem_append, List.mem_singleton]
  rintro (h' | h')
  · exact h h'
  · exact he (by rw [h']; simp [List.getD, hj])
theorem idxG_pos {α : Type} [DecidableEq α] (xs : List α) (v : α) : 0 ≤ idxG xs v ↔ v ∈ xs := by
  by_cases h : v ∈ xs
  · obtain ⟨a, b, rfl, ha⟩ := firstG h
    rw [idxG_at a b v ha]; simp [h]
  · rw [idxG_none xs v h]; simp [h]
/-- what 'only' tells: the error, and the place -/
def onlyE {α : Type} [DecidableEq α] (l : List α) (x : α) : Int := if idxG l x < 0 then 8 else if x ∈ l.drop ((idxG l x).toNat + 1) then 9 else 0
def onlyN {α : Type} [DecidableEq α] (l : List α) (x : α) : Int := if onlyE l x = 0 then idxG l x else 0
theorem onlyE_mem {α : Type} [DecidableEq α] {l : List α} {x : α} (h : x ∈ l) : onlyE l x = if 1 < l.count x then 9 else 0 := by
  obtain ⟨a, b, rfl, ha⟩ := firstG h
  unfold onlyE
  have hc : (a ++ x :: b).count x = b.count x + 1 := by
    rw [List.count_append, List.count_cons_self, List.count_eq_zero.2 ha]; omega
  have hd : (a ++ x :: b).drop (((a.length : Nat) : Int).toNat + 1) = b := by
    rw [Int.toNat_natCast, ← List.drop_drop, List.drop_left]; rfl
  rw [idxG_at a b x ha, if_neg (by omega), hd, hc]
  by_cases hb : x ∈ b
  · rw [if_pos hb, if_pos (by have := List.count_pos_iff.2 hb; omega)]
  · rw [if_neg hb, if_neg (by rw [List.count_eq_zero.2 hb]; omega)]
/-- the rows' least, told by where all others part from it -/
theorem dif_count {rows : List (List UInt8)} (hA : Apart rows) {best : List UInt8} (hb : best ∈ rows) : ((rows.map fun r => dif r best).count (-1)) = rows.count best := by
  have key : ∀ l : List (List UInt8), (∀ r ∈ l, r ∈ rows) → (l.map fun r => dif r best).count (-1) = l.count best := by
    intro l
    induction l with
    | nil => intro _; rfl
    | cons r l ih =>
      intro h
      have hr := h r List.mem_cons_self
      have := ih (fun x hx => h x (List.mem_cons_of_mem _ hx))
      rw [List.map_cons]
      by_cases e : r = best
      · subst e
        rw [List.count_cons_self, dif_self, List.count_cons_self, this]
      · have hd : dif r best ≠ -1 := fun hx => e ((dif_neg hA hr hb).1 hx)
        rw [List.count_cons_of_ne hd, List.count_cons_of_ne e, this]
  exact key rows (fun _ h => h)
theorem dif_idx {rows : List (List UInt8)} (hA : Apart rows) {best : List UInt8} (hb : best ∈ rows) : idxG (rows.map fun r => dif r best) (-1) = idxG rows best := by
  have key : ∀ l : List (List UInt8), (∀ r ∈ l, r ∈ rows) → idxG (l.map fun r => dif r best) (-1) = idxG l best := by
    intro l
    induction l with
    | nil => intro _; rfl
    | cons r l ih =>
      intro h
      have hr := h r List.mem_cons_self
      have := ih (fun x hx => h x (List.mem_cons_of_mem _ hx))
      rw [List.map_cons, idxG, idxG, this]
      by_cases e : r = best
      · subst e
        rw [dif_self, if_pos rfl, if_pos rfl]
      · have hd : dif r best ≠ -1 := fun hx => e ((dif_neg hA hr hb).1 hx)
        rw [if_neg hd, if_neg e]
  exact key rows (fun _ h => h)
theorem dif_mem {rows : List (List UInt8)} {best : List UInt8} (hb : best ∈ rows) : (-1 : Int) ∈ rows.map fun r => dif r best := List.mem_map.2 ⟨best, hb, dif_self best⟩
end Bw
end Go.Proofs.YthdhhmflfdbkhaaGreatDoor

/- What slices.Index and slices.Contains answer of numbers. -/
namespace Go.Proofs.YthdhhmflfdbkhaaGreatDoor
open Go.ChangeShapes Go.WideShapes Go.ChangeAt Go.RowKit
namespace Bw
open Bm

/-- these texts lie in block g, from off on -/
def StrsAt (w : World) (g off : Nat) (rows : List (List UInt8)) : Prop := ∀ i, i < rows.length → w.cell? ⟨g, off + i, none⟩ = some (.string ⟨(rows.getD i []).toArray⟩)
/-- these numbers lie in block g, from off on -/
def NumsAt (w : World) (g off : Nat) (xs : List Int) : Prop := ∀ i, i < xs.length → w.cell? ⟨g, off + i, none⟩ = some (.int .i64 (xs.getD i 0))
theorem txt_eq (a b : List UInt8) : ((ByteArray.mk a.toArray).toList == (ByteArray.mk b.toArray).toList) = decide (a = b) := by
  rw [ByteArray.toList_eq, ByteArray.toList_eq]
  by_cases h : a = b
  · subst h; simp
  · rw [decide_eq_false h]; simpa using h

set_option maxHeartbeats 1000000 in
theorem indexN (g off n c : Nat) (xs : List Int) (v : Int) (w : World) (hn : xs.length = n) (hm : n ≤ 1000) (hx : NumsAt w g off xs) :
    Calls Tryz.prog 17 #[.slice (some ⟨g, off, none⟩) n c, .int .i64 v] w fun e w' => e = .returned (.int .i64 (idxG xs v)) ∧ w' = w := by
  have HX := Hid.mk hx
  have HN := Hid.mk hn
  clear hx hn
  go_enter Tryz.func17, Tryz.ntmps17
  go_wp2_with fail
  go_loopw [8] (fun i wr => ∃ j : Nat, j ≤ n ∧ i = .int .i64 j ∧ Hid (v ∉ xs.take j) ∧ wr = w) (fun i _ => n - (intOf i).toNat)
  case atStart => exact ⟨0, Nat.zero_le _, rfl, Hid.mk (by simp), rfl⟩
  case round =>
    obtain ⟨j, hj, rfl, HV, hwr⟩ := hrel
    subst hwr
    by_cases hlt : j < n
    · have hc := HX.out j (by rw [HN.out]; exact hlt)
      have hlt' : (j : Int) < (n : Int) := by omega
      have hjl : j < xs.length := by rw [HN.out]; exact hlt
      by_cases he : v = xs.getD j 0
      · have hb : (v == xs.getD j 0) = true := by rw [← he]; simp
        have HRES := Hid.mk (idxG_hit xs v 0 j hjl HV.out he)
        generalize xs.getD j 0 = y at *
        clear hjl he
        go_wp2_with fail
        go_ret
        exact ⟨by rw [HRES.out]; rfl, rfl⟩
      · have hb : (v == xs.getD j 0) = false := by simpa using he
        have HNX := Hid.mk (idxG_next xs v 0 j hjl HV.out he)
        generalize xs.getD j 0 = y at *
        clear hjl he
        go_wp2_with fail
        go_roundw
        case rel => exact ⟨j + 1, by omega, by go_num, HNX, by first | rfl | trivial⟩
        case measure => simp [intOf]; omega
    · have e : j = n := by omega
      subst e
      have HRES := Hid.mk (idxG_none xs v (by
        have := HV.out
        rwa [← HN.out, List.take_length] at this))
      go_wp2_with fail
      go_ret
      exact ⟨by rw [HRES.out]; rfl, rfl⟩
set_option maxHeartbeats 1000000 in
theorem containsN (g off n c : Nat) (xs : List Int) (v : Int) (w : World) (hn : xs.length = n) (hm : n ≤ 1000) (hx : NumsAt w g off xs) :
    Calls Tryz.prog 43 #[.slice (some ⟨g, off, none⟩) n c, .int .i64 v] w fun e w' => e = .returned (.bool (decide (v ∈ xs))) ∧ w' = w := by
  have h1 := indexN g off n c xs v w hn hm hx
  have he : decide (0 ≤ idxG xs v) = decide (v ∈ xs) := by rw [decide_eq_decide]; exact idxG_pos xs v
  have HE := Hid.mk he
  generalize idxG xs v = q at *
  clear he hn hx
  go_enter Tryz.func43, Tryz.ntmps43
  go_wp2_with fail
  refine h1.mono ?_
  rintro e w1 ⟨rfl, hw1⟩
  subst hw1
  go_wp2_with fail
  go_ret
  exact ⟨by rw [← HE.out]; rfl, rfl⟩
end Bw
end Go.Proofs.YthdhhmflfdbkhaaGreatDoor

/- Texts as cells; the first error of frames. -/
namespace Go.Proofs.YthdhhmflfdbkhaaGreatDoor
open Go.ChangeShapes Go.WideShapes Go.ChangeAt Go.RowKit
namespace Bw
open Bm Cm

theorem info_str : (Tryz.prog.info? 9).map (fun i => (i.zero, i.size, i.bytes)) = some (some (.string ⟨#[]⟩), 1, 16) := by kernel_rfl
/-- texts as cells -/
def strC (l : List (List UInt8)) : List Value := l.map fun r => .string ⟨r.toArray⟩
theorem strC_append (a b : List (List UInt8)) : strC (a ++ b) = strC a ++ strC b := by simp [strC]
theorem strC_length (l : List (List UInt8)) : (strC l).length = l.length := by simp [strC]
theorem strs_of {w : World} {base g n cap : Nat} {l : List (List UInt8)} (h : w.ownsRow base 9 1 (.slice (some ⟨g, 0, none⟩) n cap) n (strC l)) : StrsAt w g 0 l := by
  intro i hi
  have hl : (strC l).length = n * 1 := h.1
  rw [strC_length] at hl
  rw [Nat.zero_add, h.cellAt i (by omega)]
  simp [strC, List.getD, hi]
/-- the first error of frames -/
def firE : List Fr → Int
  | [] => 0
  | f :: l => if frE f = 0 then firE l else frE f
theorem firE_at : ∀ (a : List Fr) (f : Fr) (b : List Fr), (∀ g ∈ a, frE g = 0) → frE f ≠ 0 → firE (a ++ f :: b) = frE f
  | [], f, b, _, h => by rw [List.nil_append, firE, if_neg h]
  | g :: a, f, b, ha, h => by rw [List.cons_append, firE, if_pos (ha g List.mem_cons_self), firE_at a f b (fun x hx => ha x (List.mem_cons_of_mem _ hx)) h]
theorem firE_zero : ∀ (l : List Fr), firE l = 0 ↔ ∀ f ∈ l, frE f = 0
  | [] => by simp [firE]
  | f :: l => by
    rw [firE]
    by_cases h : frE f = 0
    · rw [if_pos h, firE_zero l]; simp [h]
    · rw [if_neg h]; simp [h]
theorem firE_take (l : List FrV) (k : Nat) (hk : k < l.length) (h : ∀ v ∈ l.take k, frE v.f = 0) (hE : frE l[k].f ≠ 0) : firE (l.map (·.f)) = frE l[k].f := by
  have e : l = l.take k ++ l[k] :: l.drop (k + 1) := by rw [List.getElem_cons_drop, List.take_append_drop]
  have e2 : l.map (·.f) = (l.take k).map (·.f) ++ l[k].f :: (l.drop (k + 1)).map (·.f) := by
    have := congrArg (List.map (·.f)) e
    rw [List.map_append, List.map_cons] at this
    exact this
  rw [e2]
  refine firE_at _ _ _ (fun g hg => ?_) hE
  obtain ⟨v, hv, rfl⟩ := List.mem_map.1 hg
  exact h v hv
theorem take_all {l : List FrV} {k : Nat} (hk : k < l.length) (h : ∀ v ∈ l.take k, frE v.f = 0) (hE : frE l[k].f = 0) : ∀ v ∈ l.take (k + 1), frE v.f = 0 := by
  intro v hv
  rw [List.take_succ_eq_append_getElem hk, List.mem_append, List.mem_singleton] at hv
  rcases hv with hv | rfl
  · exact h v hv
  · exact hE
theorem add_next (x : Addr) (m j : Nat) : x.add (m + (j + 1)) = ⟨(x.add m).block, (x.add m).off + (j + 1), none⟩ := by
  unfold Addr.add
  by_cases h : m = 0
  · subst h; simp
  · simp [h]; omega
theorem IsFrames.kept {w w' : World} {a : Option Addr} {n cap : Nat} {l : List FrV} (h : IsFrames w a n cap l) (hb : Below w.heap.size w w') : IsFrames w' a n cap l :=
  ⟨h.len, h.le, h.max, h.none, fun x hx i hi k hk => cell_kept hb (h.cell x hx i hi k hk), fun i hi => isBytes_below (h.bytes i hi) hb⟩
end Bw
end Go.Proofs.YthdhhmflfdbkhaaGreatDoor

/- What frame.name and form answer. -/
namespace Go.Proofs.YthdhhmflfdbkhaaGreatDoor
open Go.ChangeShapes Go.WideShapes Go.ChangeAt Go.RowKit
namespace Bw
open Bm Cm

theorem head_take (n : Nat) : bitsHead (n / 262144) 11 11 = (bitsHead n 29 29).take 11 := by
  unfold bitsHead
  rw [← List.map_take, List.take_range]
  apply List.map_congr_left
  intro i hi
  have hi' : i < 11 := by simpa using hi
  unfold bitAt
  have e : n / 262144 / 2 ^ (11 - 1 - i) = n / 2 ^ (29 - 1 - i) := by
    rw [Nat.div_div_eq_div_mul, show (262144 : Nat) = 2 ^ 18 by rfl, ← Nat.pow_add, show 18 + (11 - 1 - i) = 29 - 1 - i by omega]
  rw [e]
theorem head_drop (n : Nat) : bitsHead (n % 262144) 18 18 = (bitsHead n 29 29).drop 11 := by
  apply List.ext_getElem
  · simp [bitsHead_length]
  intro i h1 h2
  have hi : i < 18 := by simpa [bitsHead_length] using h1
  simp only [bitsHead, List.getElem_map, List.getElem_drop, List.getElem_range]
  unfold bitAt
  have e : n % 262144 / 2 ^ (18 - 1 - i) % 2 = n / 2 ^ (29 - 1 - (11 + i)) % 2 := by
    rw [show 29 - 1 - (11 + i) = 18 - 1 - i by omega, show (262144 : Nat) = 2 ^ 18 by rfl]
    have h := Nat.testBit_mod_two_pow n 18 (18 - 1 - i)
    have hd : decide (18 - 1 - i < 18) = true := by simp; omega
    rw [hd, Bool.true_and, Nat.testBit_eq_decide_div_mod_eq, Nat.testBit_eq_decide_div_mod_eq] at h
    have h' : (n % 2 ^ 18 / 2 ^ (18 - 1 - i) % 2 = 1) ↔ (n / 2 ^ (18 - 1 - i) % 2 = 1) := by simpa using h
    omega
  rw [e]
theorem and_low (n : Nat) (h : n < 2 ^ 29) : bits .and .i64 (n : Int) 262143 = ((n % 262144 : Nat) : Int) := by
  have := bits_mask .i64 63 (by decide) (fun n h0 h1 => by rw [IntKind.wrap_i64]; omega) 18 (by decide) (n : Int) (by omega) (by omega)
  simpa using this

set_option maxHeartbeats 4000000 in
theorem name_shortP (n : Nat) (fa re : Bool) (sz : Int) (a : Option Addr) (len cap : Nat) (w : World) (hn : n < 2 ^ 11) :
    Calls Tryz.prog 91 #[frameV n false fa re sz a len cap] w fun e w' => e = .returned (.string ⟨(bitsHead n 11 11 ++ [bitB re, 48]).toArray⟩) ∧ Below w.heap.size w w' := by
  have hB := below_box w n false fa re sz a len cap
  have hK := FrAt.box w n false fa re sz a len cap
  unfold frameC at hB hK
  unfold frameV
  have hr := fun W => row_ok n 11 W (by omega) hn
  have hS := mk_list (bitsHead n 11 11)
  generalize ByteArray.mk (bitsHead n 11 11).toArray = S at *
  have hSs : S.size ≤ 11 := by rw [ba_size hS, bitsHead_length]; exact Nat.le_refl _
  have hBs : (ByteArray.mk #[bitB re]).size = 1 := rfl
  have hbl : (ByteArray.mk #[bitB re]).data.toList = [bitB re] := rfl
  have hfb := fun W => frBit_any re W
  generalize ByteArray.mk #[bitB re] = B at *
  have hBm : B.size ≤ 1 := by omega
  have HSL := Hid.mk hS
  have HR := Hid.mk hr
  have HBL := Hid.mk hbl
  have HFB := Hid.mk hfb
  have HK := Hid.mk hK
  clear hr hn hS hbl hfb hBs hK
  go_enter Tryz.func91, Tryz.ntmps91
  go_wp2_with fail
  refine (HR.out _).mono ?_
  rintro e w1 ⟨rfl, hb1⟩
  have hbel1 := bl2 hB hb1
  have k3 := (HK.out.kept hb1).c3
  clear hB hb1 HR HK
  go_wp2_with fail
  refine (HFB.out _).mono ?_
  rintro e w2 ⟨rfl, hw⟩
  subst hw
  go_wp2_with fail
  go_ret
  exact ⟨ret_str1 (by rw [ba_cat, ba_cat, HSL.out, HBL.out]; simp), hbel1⟩
set_option maxHeartbeats 4000000 in
theorem name_longP (n : Nat) (fa re : Bool) (sz : Int) (a : Option Addr) (len cap : Nat) (w : World) (hn : n < 2 ^ 29) :
    Calls Tryz.prog 91 #[frameV n true fa re sz a len cap] w fun e w' => e = .returned (.string ⟨((bitsHead n 29 29).take 11 ++ [49, 49] ++ (bitsHead n 29 29).drop 11 ++ [bitB re]).toArray⟩) ∧ Below w.heap.size w w' := by
  have hB := below_box w n true fa re sz a len cap
  have hK := FrAt.box w n true fa re sz a len cap
  unfold frameC at hB hK
  unfold frameV
  have hr := fun W => row_ok (n / 262144) 11 W (by omega) (by omega)
  have hr2 := fun W => row_ok (n % 262144) 18 W (by omega) (by omega)
  have e1 : (n : Int) / 262144 = ((n / 262144 : Nat) : Int) := by omega
  have e2 := and_low n hn
  rw [← e1] at hr
  rw [← e2] at hr2
  have hS := mk_list (bitsHead (n / 262144) 11 11)
  generalize ByteArray.mk (bitsHead (n / 262144) 11 11).toArray = S at *
  have hSs : S.size ≤ 11 := by rw [ba_size hS, bitsHead_length]; exact Nat.le_refl _
  have hS2 := mk_list (bitsHead (n % 262144) 18 18)
  generalize ByteArray.mk (bitsHead (n % 262144) 18 18).toArray = S2 at *
  have hSs2 : S2.size ≤ 18 := by rw [ba_size hS2, bitsHead_length]; exact Nat.le_refl _
  have hBs : (ByteArray.mk #[bitB re]).size = 1 := rfl
  have hbl : (ByteArray.mk #[bitB re]).data.toList = [bitB re] := rfl
  have hfb := fun W => frBit_any re W
  generalize ByteArray.mk #[bitB re] = B at *
  have hBm : B.size ≤ 1 := by omega
  rw [head_take] at hS
  rw [head_drop] at hS2
  have HSL := Hid.mk hS
  have HSL2 := Hid.mk hS2
  have HR := Hid.mk hr
  have HR2 := Hid.mk hr2
  have HBL := Hid.mk hbl
  have HFB := Hid.mk hfb
  have HK := Hid.mk hK
  clear hr hr2 hn hS hS2 hbl hfb hBs hK e1 e2
  go_enter Tryz.func91, Tryz.ntmps91
  go_wp2_with fail
  refine (HR.out _).mono ?_
  rintro e w1 ⟨rfl, hb1⟩
  have hbel1 := bl2 hB hb1
  have k0 := (HK.out.kept hb1).c0
  have HK1 := Hid.mk (HK.out.kept hb1)
  clear hB hb1 HR HK
  go_wp2_with fail
  refine (HR2.out _).mono ?_
  rintro e w2 ⟨rfl, hb2⟩
  have hbel2 := bl2 hbel1 hb2
  have k3 := (HK1.out.kept hb2).c3
  clear hbel1 hb2 HR2 HK1 k0
  go_wp2_with fail
  refine (HFB.out _).mono ?_
  rintro e w3 ⟨rfl, hw⟩
  subst hw
  go_wp2_with fail
  go_ret
  exact ⟨ret_str1 (by rw [ba_cat, ba_cat, ba_cat, HSL.out, HSL2.out, HBL.out]), hbel2⟩
theorem name_any (f : Fr) (a : Option Addr) (len cap : Nat) (w : World) (h0 : 0 ≤ f.id) (h1 : f.id ≤ topI f.lo) :
    Calls Tryz.prog 91 #[frameV f.id f.lo f.fa f.re f.sz a len cap] w fun e w' => e = .returned (.string ⟨(nameL f).toArray⟩) ∧ Below w.heap.size w w' := by
  obtain ⟨id, lo, fa, re, sz, dt⟩ := f
  obtain ⟨n, rfl⟩ : ∃ n : Nat, id = (n : Int) := ⟨id.toNat, by simp only at h0; omega⟩
  simp only at h0 h1 ⊢
  cases lo
  · exact name_shortP n fa re sz a len cap w (by simp [topI] at h1; omega)
  · exact name_longP n fa re sz a len cap w (by simp [topI] at h1; omega)

set_option maxHeartbeats 2000000 in
theorem form_any (f : Fr) (a : Option Addr) (len cap : Nat) (w : World) :
    Calls Tryz.prog 92 #[frameV f.id f.lo f.fa f.re f.sz a len cap] w fun e w' => e = .returned (.string ⟨(midL f).toArray⟩) ∧ Below w.heap.size w w' := by
  have hB := below_box w f.id f.lo f.fa f.re f.sz a len cap
  unfold frameC at hB
  unfold frameV midL
  obtain ⟨id, lo, fa, re, sz, dt⟩ := f
  simp only at hB ⊢
  cases fa <;> cases lo
  all_goals focus
    go_enter Tryz.func92, Tryz.ntmps92
    go_wp2_with fail
    go_ret
    exact ⟨rfl, hB⟩
end Bw
end Go.Proofs.YthdhhmflfdbkhaaGreatDoor

/- What frame.head answers of a right frame. -/
namespace Go.Proofs.YthdhhmflfdbkhaaGreatDoor
open Go.ChangeShapes Go.WideShapes Go.ChangeAt Go.RowKit
namespace Bw
open Bm Cm Go.Sort

theorem sizes_low (n : Nat) (h : n ≤ 8) : n ∈ sizesL ∧ sizesL.idxOf n = n := by
  have : ∀ m : Fin 9, m.val ∈ sizesL ∧ sizesL.idxOf m.val = m.val := by decide +kernel
  exact this ⟨n, by omega⟩
/-- the number that tells the code -/
def sizeI (f : Fr) : Int := if f.re then f.sz else (f.dt.length : Int)
theorem code_idx {f : Fr} (hE : frE f = 0) : idxI sizesI (sizeI f) = (codeN f : Int) ∧ codeN f < 2 ^ 4 := by
  obtain ⟨-, -, e3, e4, e5, e6, e7, e8, e9⟩ := frE_ok hE
  unfold sizeI codeN
  cases hre : f.re
  · exact idx_sizes e9
  · have h := sizes_low f.sz.toNat (by omega)
    have h2 := idx_sizes h.1
    rw [h.2] at h2
    simp only [if_true]
    rw [show ((f.sz.toNat : Nat) : Int) = f.sz by omega] at h2
    exact ⟨by rw [h2.1]; omega, h2.2⟩
theorem FrAt.regrown {w : World} {g : Nat} {id : Int} {lo fa re : Bool} {sz : Int} {a : Option Addr} {len cap : Nat} (h : FrAt w g id lo fa re sz a len cap) (d : Nat) (os : Array Obj) : FrAt (grow (redrawn w d) os) g id lo fa re sz a len cap :=
  ⟨cell_regrown h.c0 d os, cell_regrown h.c1 d os, cell_regrown h.c2 d os, cell_regrown h.c3 d os, cell_regrown h.c4 d os, cell_regrown h.c5 d os⟩

set_option maxHeartbeats 8000000 in
theorem head_any (f : Fr) (a : Option Addr) (len cap : Nat) (w : World) (hS : SizesAt w) (hE : frE f = 0) (hr : IsBytes w a len cap f.dt) :
    Calls Tryz.prog 63 #[frameV f.id f.lo f.fa f.re f.sz a len cap] w fun e w' => e = .returned (.string ⟨(headL f).toArray⟩) ∧ Below w.heap.size w w' := by
  obtain ⟨e1, e2, e3, e4, e5, e6, e7, e8, e9⟩ := frE_ok hE
  have hdl : f.dt.length = len := hr.1
  obtain ⟨hix, hcode⟩ := code_idx hE
  have hB := below_box w f.id f.lo f.fa f.re f.sz a len cap
  have hK := FrAt.box w f.id f.lo f.fa f.re f.sz a len cap
  unfold frameC at hB hK
  have hnm := fun W => name_any f a len cap W e1 e2
  have hfm := fun W => form_any f a len cap W
  unfold frameV at hnm hfm ⊢
  have hco := fun W hW => codeOf_any (sizeI f) W hW
  rw [hix] at hco
  have hro := fun W => row_ok (codeN f) 4 W (by omega) hcode
  have hof := fun W hB => of_any a len cap f.dt W (by omega) hB
  have hNl := mk_list (nameL f)
  have hNs := nameL_len f
  have hMl := mk_list (midL f)
  have hMs := midL_len f
  have hRl := mk_list (bitsHead (codeN f) 4 4)
  have hOl := mk_list (ofL f.dt)
  have hOs : (ofL f.dt).length ≤ 512 := by rw [ofL_length]; omega
  have hfin : headL f = [48] ++ nameL f ++ midL f ++ bitsHead (codeN f) 4 4 ++ ofL f.dt := rfl
  generalize ByteArray.mk (nameL f).toArray = NM at *
  generalize ByteArray.mk (midL f).toArray = MD at *
  generalize ByteArray.mk (bitsHead (codeN f) 4 4).toArray = CD at *
  generalize ByteArray.mk (ofL f.dt).toArray = OF at *
  have z1 : NM.size ≤ 32 := by rw [ba_size hNl, hNs]; split <;> omega
  have z2 : MD.size ≤ 4 := by rw [ba_size hMl]; omega
  have z3 : CD.size ≤ 4 := by rw [ba_size hRl, bitsHead_length]; exact Nat.le_refl _
  have z4 : OF.size ≤ 512 := by rw [ba_size hOl]; exact hOs
  have HS := Hid.mk (hS.kept hB)
  have HBY := Hid.mk (isBytes_below hr hB)
  have HNM := Hid.mk hnm
  have HFM := Hid.mk hfm
  have HCO := Hid.mk hco
  have HRO := Hid.mk hro
  have HOF := Hid.mk hof
  have HK := Hid.mk hK
  have HFIN := Hid.mk hfin
  have HL := Hid.mk (And.intro hNl (And.intro hMl (And.intro hRl hOl)))
  have hlen : (len : Int) ≤ 64 := by omega
  have hsi : sizeI f = if f.re then f.sz else (len : Int) := by unfold sizeI; rw [hdl]
  have HSI := Hid.mk hsi
  clear hS hr hnm hfm hco hro hof hNl hNs hMl hMs hRl hOl hOs hfin hK e1 e2 e3 e4 e5 e6 e7 e8 e9 hE hix hcode hdl hsi
  generalize codeN f = cn at *
  generalize sizeI f = si at *
  cases hre : f.re
  all_goals
    rw [hre] at HNM HFM HK hB HSI HS HBY
    have hsi := HSI.out
    simp only [Bool.false_eq_true, if_false, if_true] at hsi
    subst hsi
    go_enter Tryz.func63, Tryz.ntmps63
    go_wp2_with fail
    refine (HCO.out _ HS.out).mono ?_
    rintro e w1 ⟨rfl, hw1⟩
    subst hw1
    go_wp2_with fail
    refine (HRO.out _).mono ?_
    rintro e w2 ⟨rfl, hb2⟩
    have hbel2 := bl2 hB hb2
    have HBY2 := Hid.mk (isBytes_below HBY.out hb2)
    have HK2 := Hid.mk (HK.out.kept hb2)
    have k5 := HK2.out.c5
    clear hB hb2 HBY HK HCO HRO HS
    go_wp2_with fail
    refine (HOF.out _ HBY2.out).mono ?_
    rintro e w3 ⟨rfl, hb3⟩
    have hbel3 := bl2 hbel2 hb3
    have HK3 := Hid.mk (HK2.out.kept hb3)
    clear hbel2 hb3 HBY2 HK2 k5 HOF
    have r0 := fun d os => (HK3.out.regrown d os).c0
    have r1 := fun d os => (HK3.out.regrown d os).c1
    have r2 := fun d os => (HK3.out.regrown d os).c2
    have r3 := fun d os => (HK3.out.regrown d os).c3
    have r4 := fun d os => (HK3.out.regrown d os).c4
    have r5 := fun d os => (HK3.out.regrown d os).c5
    go_wp2_with fail
    refine wp_region_quiet_below (by kernel_rfl) (by kernel_rfl) ?_
    set_option maxRecDepth 100000 in
    repeat (go_big_quiet_step (first
      | (go_at_call 91; exact Calls.regrown_of (HNM.out _))
      | (go_at_call 92; exact Calls.regrown_of (HFM.out _))))
    refine wpQuiet_nil ?_
    intro _ hw'
    obtain ⟨⟨dq, osq⟩, hw''⟩ := hw'
    subst hw''
    have hbq := bl2 hbel3 (below_regrown w3 dq osq)
    clear r0 r1 r2 r3 r4 r5 hbel3
    go_wp2_with fail
    go_ret
    obtain ⟨l1, l2, l3, l4⟩ := HL.out
    exact ⟨ret_str1 (by rw [HFIN.out, ba_cat, ba_cat, ba_cat, ba_cat, l1, l2, l3, l4]), hbq⟩
end Bw
end Go.Proofs.YthdhhmflfdbkhaaGreatDoor

/- What frame.countOf answers. -/
namespace Go.Proofs.YthdhhmflfdbkhaaGreatDoor
open Go.ChangeShapes Go.WideShapes Go.ChangeAt Go.RowKit
namespace Bw
open Bm Cm

set_option maxHeartbeats 1000000 in
theorem count_0 (p : Nat) (w : World) (h : (p : Int).tmod 8 = 0) :
    Calls Tryz.prog 82 #[.int .i64 p] w fun e w' => e = .returned (.string ⟨(grayL 0).toArray⟩) ∧ Below w.heap.size w w' := by
  have hx : bits .xor .i64 0 0 = 0 := by decide
  have hr := fun W => row_ok 0 3 W (by omega) (by omega)
  have hl : (bitsHead 0 3 3).toArray = #[48, 48, 48] := by decide
  rw [hl] at hr
  have hcn := fun W => Tryz.strings_Count_one ⟨#[48, 48, 48]⟩ 49 W
  have hc2 : Lib.countByte (ByteArray.mk #[48, 48, 48]).data.toList 49 = 0 := by decide
  rw [hc2] at hcn
  have HR := Hid.mk hr
  have HC := Hid.mk hcn
  clear hr hcn hc2 hl
  go_enter Tryz.func82, Tryz.ntmps82
  go_wp2_with fail
  try rw [hx]
  refine (HR.out _).mono ?_
  rintro e w1 ⟨rfl, hb1⟩
  clear HR
  go_wp2_with fail
  refine (HC.out _).mono ?_
  rintro e w2 ⟨rfl, hw⟩
  subst hw
  go_wp2_with fail
  refine (frBit_any false _).mono ?_
  rintro e w3 ⟨rfl, hw⟩
  subst hw
  go_wp2_with fail
  go_ret
  exact ⟨rfl, hb1⟩
set_option maxHeartbeats 1000000 in
theorem count_1 (p : Nat) (w : World) (h : (p : Int).tmod 8 = 1) :
    Calls Tryz.prog 82 #[.int .i64 p] w fun e w' => e = .returned (.string ⟨(grayL 1).toArray⟩) ∧ Below w.heap.size w w' := by
  have hx : bits .xor .i64 1 0 = 1 := by decide
  have hr := fun W => row_ok 1 3 W (by omega) (by omega)
  have hl : (bitsHead 1 3 3).toArray = #[48, 48, 49] := by decide
  rw [hl] at hr
  have hcn := fun W => Tryz.strings_Count_one ⟨#[48, 48, 49]⟩ 49 W
  have hc2 : Lib.countByte (ByteArray.mk #[48, 48, 49]).data.toList 49 = 1 := by decide
  rw [hc2] at hcn
  have HR := Hid.mk hr
  have HC := Hid.mk hcn
  clear hr hcn hc2 hl
  go_enter Tryz.func82, Tryz.ntmps82
  go_wp2_with fail
  try rw [hx]
  refine (HR.out _).mono ?_
  rintro e w1 ⟨rfl, hb1⟩
  clear HR
  go_wp2_with fail
  refine (HC.out _).mono ?_
  rintro e w2 ⟨rfl, hw⟩
  subst hw
  go_wp2_with fail
  refine (frBit_any true _).mono ?_
  rintro e w3 ⟨rfl, hw⟩
  subst hw
  go_wp2_with fail
  go_ret
  exact ⟨rfl, hb1⟩
set_option maxHeartbeats 1000000 in
theorem count_2 (p : Nat) (w : World) (h : (p : Int).tmod 8 = 2) :
    Calls Tryz.prog 82 #[.int .i64 p] w fun e w' => e = .returned (.string ⟨(grayL 2).toArray⟩) ∧ Below w.heap.size w w' := by
  have hx : bits .xor .i64 2 1 = 3 := by decide
  have hr := fun W => row_ok 3 3 W (by omega) (by omega)
  have hl : (bitsHead 3 3 3).toArray = #[48, 49, 49] := by decide
  rw [hl] at hr
  have hcn := fun W => Tryz.strings_Count_one ⟨#[48, 49, 49]⟩ 49 W
  have hc2 : Lib.countByte (ByteArray.mk #[48, 49, 49]).data.toList 49 = 2 := by decide
  rw [hc2] at hcn
  have HR := Hid.mk hr
  have HC := Hid.mk hcn
  clear hr hcn hc2 hl
  go_enter Tryz.func82, Tryz.ntmps82
  go_wp2_with fail
  try rw [hx]
  refine (HR.out _).mono ?_
  rintro e w1 ⟨rfl, hb1⟩
  clear HR
  go_wp2_with fail
  refine (HC.out _).mono ?_
  rintro e w2 ⟨rfl, hw⟩
  subst hw
  go_wp2_with fail
  refine (frBit_any false _).mono ?_
  rintro e w3 ⟨rfl, hw⟩
  subst hw
  go_wp2_with fail
  go_ret
  exact ⟨rfl, hb1⟩
set_option maxHeartbeats 1000000 in
theorem count_3 (p : Nat) (w : World) (h : (p : Int).tmod 8 = 3) :
    Calls Tryz.prog 82 #[.int .i64 p] w fun e w' => e = .returned (.string ⟨(grayL 3).toArray⟩) ∧ Below w.heap.size w w' := by
  have hx : bits .xor .i64 3 1 = 2 := by decide
  have hr := fun W => row_ok 2 3 W (by omega) (by omega)
  have hl : (bitsHead 2 3 3).toArray = #[48, 49, 48] := by decide
  rw [hl] at hr
  have hcn := fun W => Tryz.strings_Count_one ⟨#[48, 49, 48]⟩ 49 W
  have hc2 : Lib.countByte (ByteArray.mk #[48, 49, 48]).data.toList 49 = 1 := by decide
  rw [hc2] at hcn
  have HR := Hid.mk hr
  have HC := Hid.mk hcn
  clear hr hcn hc2 hl
  go_enter Tryz.func82, Tryz.ntmps82
  go_wp2_with fail
  try rw [hx]
  refine (HR.out _).mono ?_
  rintro e w1 ⟨rfl, hb1⟩
  clear HR
  go_wp2_with fail
  refine (HC.out _).mono ?_
  rintro e w2 ⟨rfl, hw⟩
  subst hw
  go_wp2_with fail
  refine (frBit_any true _).mono ?_
  rintro e w3 ⟨rfl, hw⟩
  subst hw
  go_wp2_with fail
  go_ret
  exact ⟨rfl, hb1⟩
set_option maxHeartbeats 1000000 in
theorem count_4 (p : Nat) (w : World) (h : (p : Int).tmod 8 = 4) :
    Calls Tryz.prog 82 #[.int .i64 p] w fun e w' => e = .returned (.string ⟨(grayL 4).toArray⟩) ∧ Below w.heap.size w w' := by
  have hx : bits .xor .i64 4 2 = 6 := by decide
  have hr := fun W => row_ok 6 3 W (by omega) (by omega)
  have hl : (bitsHead 6 3 3).toArray = #[49, 49, 48] := by decide
  rw [hl] at hr
  have hcn := fun W => Tryz.strings_Count_one ⟨#[49, 49, 48]⟩ 49 W
  have hc2 : Lib.countByte (ByteArray.mk #[49, 49, 48]).data.toList 49 = 2 := by decide
  rw [hc2] at hcn
  have HR := Hid.mk hr
  have HC := Hid.mk hcn
  clear hr hcn hc2 hl
  go_enter Tryz.func82, Tryz.ntmps82
  go_wp2_with fail
  try rw [hx]
  refine (HR.out _).mono ?_
  rintro e w1 ⟨rfl, hb1⟩
  clear HR
  go_wp2_with fail
  refine (HC.out _).mono ?_
  rintro e w2 ⟨rfl, hw⟩
  subst hw
  go_wp2_with fail
  refine (frBit_any false _).mono ?_
  rintro e w3 ⟨rfl, hw⟩
  subst hw
  go_wp2_with fail
  go_ret
  exact ⟨rfl, hb1⟩
set_option maxHeartbeats 1000000 in
theorem count_5 (p : Nat) (w : World) (h : (p : Int).tmod 8 = 5) :
    Calls Tryz.prog 82 #[.int .i64 p] w fun e w' => e = .returned (.string ⟨(grayL 5).toArray⟩) ∧ Below w.heap.size w w' := by
  have hx : bits .xor .i64 5 2 = 7 := by decide
  have hr := fun W => row_ok 7 3 W (by omega) (by omega)
  have hl : (bitsHead 7 3 3).toArray = #[49, 49, 49] := by decide
  rw [hl] at hr
  have hcn := fun W => Tryz.strings_Count_one ⟨#[49, 49, 49]⟩ 49 W
  have hc2 : Lib.countByte (ByteArray.mk #[49, 49, 49]).data.toList 49 = 3 := by decide
  rw [hc2] at hcn
  have HR := Hid.mk hr
  have HC := Hid.mk hcn
  clear hr hcn hc2 hl
  go_enter Tryz.func82, Tryz.ntmps82
  go_wp2_with fail
  try rw [hx]
  refine (HR.out _).mono ?_
  rintro e w1 ⟨rfl, hb1⟩
  clear HR
  go_wp2_with fail
  refine (HC.out _).mono ?_
  rintro e w2 ⟨rfl, hw⟩
  subst hw
  go_wp2_with fail
  refine (frBit_any true _).mono ?_
  rintro e w3 ⟨rfl, hw⟩
  subst hw
  go_wp2_with fail
  go_ret
  exact ⟨rfl, hb1⟩
set_option maxHeartbeats 1000000 in
theorem count_6 (p : Nat) (w : World) (h : (p : Int).tmod 8 = 6) :
    Calls Tryz.prog 82 #[.int .i64 p] w fun e w' => e = .returned (.string ⟨(grayL 6).toArray⟩) ∧ Below w.heap.size w w' := by
  have hx : bits .xor .i64 6 3 = 5 := by decide
  have hr := fun W => row_ok 5 3 W (by omega) (by omega)
  have hl : (bitsHead 5 3 3).toArray = #[49, 48, 49] := by decide
  rw [hl] at hr
  have hcn := fun W => Tryz.strings_Count_one ⟨#[49, 48, 49]⟩ 49 W
  have hc2 : Lib.countByte (ByteArray.mk #[49, 48, 49]).data.toList 49 = 2 := by decide
  rw [hc2] at hcn
  have HR := Hid.mk hr
  have HC := Hid.mk hcn
  clear hr hcn hc2 hl
  go_enter Tryz.func82, Tryz.ntmps82
  go_wp2_with fail
  try rw [hx]
  refine (HR.out _).mono ?_
  rintro e w1 ⟨rfl, hb1⟩
  clear HR
  go_wp2_with fail
  refine (HC.out _).mono ?_
  rintro e w2 ⟨rfl, hw⟩
  subst hw
  go_wp2_with fail
  refine (frBit_any false _).mono ?_
  rintro e w3 ⟨rfl, hw⟩
  subst hw
  go_wp2_with fail
  go_ret
  exact ⟨rfl, hb1⟩
set_option maxHeartbeats 1000000 in
theorem count_7 (p : Nat) (w : World) (h : (p : Int).tmod 8 = 7) :
    Calls Tryz.prog 82 #[.int .i64 p] w fun e w' => e = .returned (.string ⟨(grayL 7).toArray⟩) ∧ Below w.heap.size w w' := by
  have hx : bits .xor .i64 7 3 = 4 := by decide
  have hr := fun W => row_ok 4 3 W (by omega) (by omega)
  have hl : (bitsHead 4 3 3).toArray = #[49, 48, 48] := by decide
  rw [hl] at hr
  have hcn := fun W => Tryz.strings_Count_one ⟨#[49, 48, 48]⟩ 49 W
  have hc2 : Lib.countByte (ByteArray.mk #[49, 48, 48]).data.toList 49 = 1 := by decide
  rw [hc2] at hcn
  have HR := Hid.mk hr
  have HC := Hid.mk hcn
  clear hr hcn hc2 hl
  go_enter Tryz.func82, Tryz.ntmps82
  go_wp2_with fail
  try rw [hx]
  refine (HR.out _).mono ?_
  rintro e w1 ⟨rfl, hb1⟩
  clear HR
  go_wp2_with fail
  refine (HC.out _).mono ?_
  rintro e w2 ⟨rfl, hw⟩
  subst hw
  go_wp2_with fail
  refine (frBit_any true _).mono ?_
  rintro e w3 ⟨rfl, hw⟩
  subst hw
  go_wp2_with fail
  go_ret
  exact ⟨rfl, hb1⟩
theorem countOf_any (p : Nat) (w : World) :
    Calls Tryz.prog 82 #[.int .i64 p] w fun e w' => e = .returned (.string ⟨(grayL (p % 8)).toArray⟩) ∧ Below w.heap.size w w' := by
  have hq : (p : Int).tmod 8 = ((p % 8 : Nat) : Int) := by rw [Int.tmod_eq_emod_of_nonneg (by omega)]; omega
  have hlt : p % 8 < 8 := Nat.mod_lt _ (by omega)
  generalize p % 8 = q at *
  match q, hlt with
  | 0, _ => exact count_0 p w hq
  | 1, _ => exact count_1 p w hq
  | 2, _ => exact count_2 p w hq
  | 3, _ => exact count_3 p w hq
  | 4, _ => exact count_4 p w hq
  | 5, _ => exact count_5 p w hq
  | 6, _ => exact count_6 p w hq
  | 7, _ => exact count_7 p w hq
  | n + 8, h => exact absurd h (by omega)
end Bw
end Go.Proofs.YthdhhmflfdbkhaaGreatDoor

/- One step of the register as the program reckons it, in words of 64 bits. -/
namespace Go.Proofs.YthdhhmflfdbkhaaGreatDoor.Cm
open Go Bm

theorem xor_i64 (a b : Nat) (ha : a < 2 ^ 62) (hb : b < 2 ^ 62) : bits .xor .i64 (a : Int) (b : Int) = ((a ^^^ b : Nat) : Int) := by
  have hx : a ^^^ b < 2 ^ 62 := Nat.xor_lt_two_pow ha hb
  have h1 : (BitVec.ofInt 64 (a : Int)).toNat = a := by
    rw [BitVec.ofInt_natCast, BitVec.toNat_ofNat]; exact Nat.mod_eq_of_lt (by omega)
  have h2 : (BitVec.ofInt 64 (b : Int)).toNat = b := by
    rw [BitVec.ofInt_natCast, BitVec.toNat_ofNat]; exact Nat.mod_eq_of_lt (by omega)
  show IntKind.i64.wrap ((BitVec.ofInt 64 (a : Int) ^^^ BitVec.ofInt 64 (b : Int)).toNat : Int) = _
  rw [BitVec.toNat_xor, h1, h2, IntKind.wrap_i64]
  omega
theorem two_pow_cast (s : Nat) : ((2 ^ s : Nat) : Int) = (2 : Int) ^ s := by simp
theorem pow_small (s : Nat) (h : s ≤ 21) : (1 : Int) ≤ 2 ^ s ∧ (2 : Int) ^ s ≤ 2097152 := by
  rw [← two_pow_cast]
  have h1 : 2 ^ s ≤ 2 ^ 21 := Nat.pow_le_pow_right (by omega) h
  have h2 := Nat.two_pow_pos s
  omega
theorem mask_i64 (n s : Nat) (hs : s ≤ 21) (hn : n < 2 ^ 62) : bits .and .i64 (n : Int) (2 ^ s - 1) = ((n % 2 ^ s : Nat) : Int) := by
  have := bits_mask .i64 62 (by decide) (fun n h0 h1 => by rw [IntKind.wrap_i64]; omega) s (by omega) (n : Int) (by omega) (by omega)
  rw [this]
  simp
theorem wrap_small (x : Int) (h0 : -9223372036854775808 ≤ x) (h1 : x < 9223372036854775808) : IntKind.i64.wrap x = x := by rw [IntKind.wrap_i64]; omega
/-- the bit that goes out at the left -/
theorem out_div (n s : Nat) (hs : 1 ≤ s) : 2 * n / 2 ^ s = n / 2 ^ (s - 1) := by
  obtain ⟨t, rfl⟩ : ∃ t, s = t + 1 := ⟨s - 1, by omega⟩
  rw [Nat.add_sub_cancel, Nat.pow_succ, Nat.mul_comm (2 ^ t) 2, Nat.mul_div_mul_left _ _ (by omega)]
theorem out_int (n s : Nat) (hs : 1 ≤ s) : (2 * (n : Int)) / 2 ^ s = ((n / 2 ^ (s - 1) : Nat) : Int) := by
  rw [← out_div n s hs]
  simp
theorem step_eq (s p n d : Nat) (h : n / 2 ^ (s - 1) = d) : crcStep s p n d = 2 * n % 2 ^ s := by
  unfold crcStep; rw [if_pos h, Nat.xor_zero]
theorem step_ne (s p n d : Nat) (h : n / 2 ^ (s - 1) ≠ d) : crcStep s p n d = 2 * n % 2 ^ s ^^^ p := by
  unfold crcStep; rw [if_neg h]
end Go.Proofs.YthdhhmflfdbkhaaGreatDoor.Cm

/- What the method next of check.rule answers: one step of the register. -/
namespace Go.Proofs.YthdhhmflfdbkhaaGreatDoor
open Go.ChangeShapes Go.WideShapes Go.ChangeAt Go.RowKit
namespace Bw
open Bm Cm

theorem mask_walk (n s : Nat) (hs : s ≤ 21) (hn : n ≤ 2097151) : bits .and .i64 ((n : Int) * 2) (wrap64 (wrap64 (2 ^ s) - 1)) = ((2 * n % 2 ^ s : Nat) : Int) := by
  obtain ⟨h1, h2⟩ := pow_small s hs
  have e1 : wrap64 (2 ^ s) = (2 : Int) ^ s := by unfold wrap64; omega
  have e2 : wrap64 ((2 : Int) ^ s - 1) = (2 : Int) ^ s - 1 := by unfold wrap64; omega
  rw [e1, e2]
  have e3 : (n : Int) * 2 = ((2 * n : Nat) : Int) := by omega
  rw [e3]
  exact mask_i64 (2 * n) s hs (by omega)
theorem out_walk (n s : Nat) (hs1 : 1 ≤ s) : (n : Int) * 2 / 2 ^ s = ((n / 2 ^ (s - 1) : Nat) : Int) := by
  rw [Int.mul_comm]; exact out_int n s hs1

set_option maxHeartbeats 1000000 in
theorem next_any (s p f en n d : Nat) (w : World) (hs1 : 1 ≤ s) (hs : s ≤ 21) (hp : p < 2 ^ s) (hn : n < 2 ^ s) :
    Calls Tryz.prog 107 #[.agg #[.int .i64 s, .int .i64 p, .int .i64 f, .int .i64 en], .int .i64 n, .int .i64 d] w fun e w' => e = .returned (.int .i64 (crcStep s p n d)) ∧ Below w.heap.size w w' := by
  have h21 : 2 ^ s ≤ 2 ^ 21 := Nat.pow_le_pow_right (by omega) hs
  have hnb : (n : Int) ≤ 2097151 := by omega
  have hpb : p ≤ 2097151 := by omega
  have hs1' : (1 : Int) ≤ (s : Int) := by omega
  have hs' : (s : Int) ≤ 21 := by omega
  have HM := Hid.mk (mask_walk n s hs (by omega))
  have HO := Hid.mk (out_walk n s hs1)
  have HB := Hid.mk (show 2 * n % 2 ^ s < 2 ^ s from Nat.mod_lt _ (Nat.two_pow_pos s))
  have HC := Hid.mk h21
  clear h21 hp hn
  by_cases hd : n / 2 ^ (s - 1) = d
  · have hc : ((n : Int) * 2 / 2 ^ s != (d : Int)) = false := by rw [HO.out, hd]; simp
    go_enter Tryz.func107, Tryz.ntmps107
    go_wp2_with fail
    go_ret
    exact ⟨by rw [HM.out, step_eq s p n d hd]; rfl, (Below.refl _ _).alloc (Nat.le_refl _) _⟩
  · have hc : ((n : Int) * 2 / 2 ^ s != (d : Int)) = true := by
      rw [HO.out, bne_iff_ne]
      intro h
      exact hd (by exact_mod_cast h)
    go_enter Tryz.func107, Tryz.ntmps107
    go_wp2_with fail
    go_ret
    refine ⟨?_, (Below.refl _ _).alloc (Nat.le_refl _) _⟩
    have h1 := HB.out
    have h2 := HC.out
    rw [HM.out, step_ne s p n d hd, xor_i64 _ _ (by omega) (by omega)]
    rfl
end Bw
end Go.Proofs.YthdhhmflfdbkhaaGreatDoor

/- What check.sum answers of a row by one of the five kinds. -/
namespace Go.Proofs.YthdhhmflfdbkhaaGreatDoor
open Go.ChangeShapes Go.WideShapes Go.ChangeAt Go.RowKit
namespace Bw
open Bm Cm

theorem new_cell (W : World) (cs : Array Value) (t : TypeId) (k g : Nat) (hg : g = W.heap.size) : (W.alloc (.cells cs t)).cell? ⟨g, k, none⟩ = cs[k]? := by
  subst hg
  exact cell_of_row _ _ k _ _ _ (heap_alloc_new W _)
theorem up_lt' {n a c : Nat} (h : n < 2 ^ a) (ha : a ≤ c) : n < 2 ^ c := Nat.lt_of_lt_of_le h (Nat.pow_le_pow_right (Nat.succ_pos 1) ha)
def rk (k : Nat) : Value := .agg #[.int .i64 (kS k), .int .i64 (kP k), .int .i64 (kF k), .int .i64 (kE k)]

set_option maxHeartbeats 4000000 in
theorem sumR_any (s p f en : Nat) (b : ByteArray) (w : World) (hs1 : 1 ≤ s) (hs : s ≤ 21) (hp : p < 2 ^ s) (hf : f < 2 ^ s) (he : en < 2 ^ s) (h1000 : b.size ≤ 1000) (hrow : rowB b.data.toList = true) :
    Calls Tryz.prog 85 #[.agg #[.int .i64 s, .int .i64 p, .int .i64 f, .int .i64 en], .string b] w fun e w' =>
      e = .returned (.tuple #[.string ⟨(bitsHead (crcR s p f b.data.toList ^^^ en) s s).toArray⟩, .int .i64 0]) ∧ Below w.heap.size w w' := by
  have hl : b.data.toList.length = b.size := by simp
  have HL := Hid.mk hl
  have HP := Hid.mk hp
  have HF := Hid.mk hf
  have HE := Hid.mk he
  have HR := Hid.mk hrow
  have hb1 : Below w.heap.size w (w.alloc (.cells #[.int .i64 s, .int .i64 p, .int .i64 f, .int .i64 en] 115)) := (Below.refl _ _).alloc (Nat.le_refl _) _
  have hnc := fun k => new_cell w #[.int .i64 s, .int .i64 p, .int .i64 f, .int .i64 en] 115 k w.heap.size rfl
  have HC := Hid.mk (And.intro (hnc 0) (And.intro (hnc 1) (And.intro (hnc 2) (hnc 3))))
  have HS := Hid.mk (show (w.alloc (.cells #[.int .i64 s, .int .i64 p, .int .i64 f, .int .i64 en] 115)).heap.size = w.heap.size + 1 by simp)
  clear hp hf he hrow hnc hl
  go_enter Tryz.func85, Tryz.ntmps85
  go_wp2_with fail
  generalize hW1 : w.alloc (.cells #[.int .i64 s, .int .i64 p, .int .i64 f, .int .i64 en] 115) = W1 at *
  clear hW1
  go_loopw [6, 12] (fun r i wr => ∃ j : Nat, j ≤ b.size ∧ i = .int .i64 j ∧ r = .int .i64 (crcR s p f (b.data.toList.take j)) ∧ Below W1.heap.size W1 wr) (fun _ i _ => b.size - (intOf i).toNat)
  case atStart => exact ⟨0, Nat.zero_le _, rfl, rfl, Below.refl _ _⟩
  case round =>
    obtain ⟨j, hj, rfl, rfl, hbel⟩ := hrel
    have k0 := cell_kept hbel HC.out.1
    have k1 := cell_kept hbel HC.out.2.1
    have k2 := cell_kept hbel HC.out.2.2.1
    have k3 := cell_kept hbel HC.out.2.2.2
    simp at k0 k1 k2 k3
    have HN := Hid.mk (crcR_lt s p f HP.out HF.out (b.data.toList.take j))
    by_cases hlt : j < b.size
    · have hbit := rowB_at HR.out j hlt
      have hd := (bit_dig hbit).2
      have hd1 := (bit_dig hbit).1
      have HT := Hid.mk (take_snoc b j hlt)
      have hbn := rowB_at' HR.out j hlt
      have hb48 : (48 : Int) ≤ (b[j].toNat : Int) := by omega
      have hb49 : (b[j].toNat : Int) ≤ 49 := by omega
      have HD : Hid (IntKind.i64.wrap (IntKind.u8.wrap ((b[j].toNat : Int) - 48)) = ((dig b[j] : Nat) : Int)) := by
        refine Hid.mk ?_
        rw [hd]
        have e1 : IntKind.u8.wrap ((b[j].toNat : Int) - 48) = (b[j].toNat : Int) - 48 := by simp [IntKind.wrap, IntKind.bits, IntKind.signed]; omega
        rw [e1, IntKind.wrap_i64]; omega
      clear hd hd1 hbit hbn
      go_wp2_with fail
      set_option maxRecDepth 100000 in
      go_region_with (go_at_call 107; rw [HD.out]; refine (next_any s p f en _ (dig b[j]) _ hs1 hs HP.out HN.out).mono ?_; rintro e w2 ⟨rfl, hb2⟩)
      all_goals focus
        have hbel2 : Below W1.heap.size W1 w2 := hbel.drew.trans (hb2.mono hbel.size)
        rw [← crcR_snoc, ← HT.out]
        clear hb2 hbel k0 k1 k2 k3 HD HN
        go_wp2_with fail
        go_roundw
        case rel => exact ⟨j + 1, by omega, by go_num, rfl, hbel2⟩
        case measure => simp [intOf]; omega
    · have e : j = b.size := by omega
      subst e
      rw [List.take_of_length_le (by rw [HL.out]; exact Nat.le_refl _)] at HN ⊢
      have hx := xor_i64 _ _ (up_lt' (c := 62) HN.out (by omega)) (up_lt' (c := 62) HE.out (by omega))
      have hr := row_ok (crcR s p f b.data.toList ^^^ en) s wr (by omega) (Nat.xor_lt_two_pow HN.out HE.out)
      have HX := Hid.mk hx
      have HRO := Hid.mk hr
      clear hx hr
      go_wp2_with fail
      rw [HX.out]
      refine HRO.out.mono ?_
      rintro e w2 ⟨rfl, hb2⟩
      go_wp2_with fail
      go_ret2
      exact ⟨rfl, hb1.trans ((hbel.trans (hb2.mono hbel.size)).mono hb1.size)⟩
end Bw
end Go.Proofs.YthdhhmflfdbkhaaGreatDoor

/- What check.Sum answers, errors too, where the table of kinds lies as its initialiser lays it. -/
namespace Go.Proofs.YthdhhmflfdbkhaaGreatDoor
open Go.ChangeShapes Go.WideShapes Go.ChangeAt Go.RowKit
namespace Bw
open Bm Cm

/-- the table of kinds, cell by cell -/
def RulesAt (w : World) : Prop := ∀ k, k ≤ 4 → w.cell? ⟨1, k * 4, none⟩ = some (.int .i64 (kS k)) ∧ w.cell? ⟨1, k * 4 + 1, none⟩ = some (.int .i64 (kP k)) ∧ w.cell? ⟨1, k * 4 + 2, none⟩ = some (.int .i64 (kF k)) ∧ w.cell? ⟨1, k * 4 + 3, none⟩ = some (.int .i64 (kE k))
theorem RulesAt.kept {w w' : World} (h : RulesAt w) (hb : Below w.heap.size w w') : RulesAt w' := fun k hk =>
  ⟨cell_kept hb (h k hk).1, cell_kept hb (h k hk).2.1, cell_kept hb (h k hk).2.2.1, cell_kept hb (h k hk).2.2.2⟩

set_option maxHeartbeats 1000000 in
theorem isKind_any (k : Int) (w : World) :
    Calls Tryz.prog 84 #[.int .i64 k] w fun e w' => e = .returned (.bool (decide (0 ≤ k) && decide (k < 5))) ∧ w' = w := by
  by_cases h : 0 ≤ k
  · have h0 : decide (k ≥ 0) = true := by simpa using h
    have h0' : decide (0 ≤ k) = true := by simpa using h
    go_enter Tryz.func84, Tryz.ntmps84
    go_wp2_with fail
    go_ret
    exact ⟨by first | rfl | (rw [h0']; rfl), rfl⟩
  · have h0 : decide (k ≥ 0) = false := by simpa using h
    have h0' : decide (0 ≤ k) = false := by simpa using h
    go_enter Tryz.func84, Tryz.ntmps84
    go_wp2_with fail
    go_ret
    exact ⟨by first | rfl | (rw [h0']; rfl), rfl⟩
theorem isKind_yes (k : Nat) (w : World) (hk : k ≤ 4) : Calls Tryz.prog 84 #[.int .i64 k] w fun e w' => e = .returned (.bool true) ∧ w' = w :=
  (isKind_any k w).mono fun e w' ⟨h1, h2⟩ => ⟨by
    have a : decide ((0 : Int) ≤ (k : Int)) = true := by simp
    have b : decide ((k : Int) < 5) = true := by simp; omega
    rw [h1, a, b]; rfl, h2⟩
theorem isKind_no (k : Int) (w : World) (hk : k < 0 ∨ 4 < k) : Calls Tryz.prog 84 #[.int .i64 k] w fun e w' => e = .returned (.bool false) ∧ w' = w :=
  (isKind_any k w).mono fun e w' ⟨h1, h2⟩ => ⟨by
    have : (decide ((0 : Int) ≤ k) && decide (k < 5)) = false := by
      rcases hk with h | h
      · have : decide ((0 : Int) ≤ k) = false := by simpa using h
        rw [this]; rfl
      · have : decide (k < 5) = false := by simp; omega
        rw [this]; simp
    rw [h1, this], h2⟩

set_option maxHeartbeats 2000000 in
theorem sum_bad (k : Int) (b : ByteArray) (w : World) (hb : b.size ≤ maxLen) (hc : checkE b.data.toList ≠ 0) :
    Calls Tryz.prog 58 #[.int .i64 k, .string b] w fun e w' => e = .returned (.tuple #[.string ⟨#[]⟩, .int .i64 (checkE b.data.toList)]) ∧ Below w.heap.size w w' := by
  have h1 := check_any b w hb
  have hne : (checkE b.data.toList != 0) = true := by simpa using hc
  generalize checkE b.data.toList = ce at *
  go_enter Tryz.func58, Tryz.ntmps58
  go_wp2_with fail
  refine h1.mono ?_
  rintro e w1 ⟨rfl, hb1⟩
  go_wp2_with fail
  go_ret2
  exact ⟨rfl, hb1⟩
set_option maxHeartbeats 2000000 in
theorem sum_who (k : Int) (b : ByteArray) (w : World) (hb : b.size ≤ maxLen) (hc : checkE b.data.toList = 0) (hk : k < 0 ∨ 4 < k) :
    Calls Tryz.prog 58 #[.int .i64 k, .string b] w fun e w' => e = .returned (.tuple #[.string ⟨#[]⟩, .int .i64 8]) ∧ Below w.heap.size w w' := by
  have h1 := check_any b w hb
  rw [hc] at h1
  have HK := Hid.mk hk
  clear hk hc
  go_enter Tryz.func58, Tryz.ntmps58
  go_wp2_with fail
  refine h1.mono ?_
  rintro e w1 ⟨rfl, hb1⟩
  clear h1
  go_wp2_with fail
  refine (isKind_no k w1 HK.out).mono ?_
  rintro e w2 ⟨rfl, hw2⟩
  subst hw2
  go_wp2_with fail
  go_ret2
  exact ⟨rfl, hb1⟩
set_option maxHeartbeats 2000000 in
theorem sum_ok (k : Nat) (b : ByteArray) (w : World) (hR : RulesAt w) (hc : checkE b.data.toList = 0) (hk : k ≤ 4) :
    Calls Tryz.prog 58 #[.int .i64 k, .string b] w fun e w' => e = .returned (.tuple #[.string ⟨(sumL k b.data.toList).toArray⟩, .int .i64 0]) ∧ Below w.heap.size w w' := by
  obtain ⟨h1000, hrow⟩ := small_of_check hc
  have h1 := check_any b w (by unfold maxLen; omega)
  rw [hc] at h1
  obtain ⟨s8, s21, p1, hp, hf, he, _⟩ := kinds_ok k hk
  have h2 := fun W => sumR_any (kS k) (kP k) (kF k) (kE k) b W (by omega) s21 hp hf he h1000 hrow
  have H2 := Hid.mk h2
  have H3 := Hid.mk hR
  have hk' : (k : Int) < 5 := by omega
  clear hR hc hp hf he hrow h2
  go_enter Tryz.func58, Tryz.ntmps58
  go_wp2_with fail
  refine h1.mono ?_
  rintro e w1 ⟨rfl, hb1⟩
  clear h1
  obtain ⟨c0, c1, c2, c3⟩ := H3.out.kept hb1 k hk
  go_wp2_with fail
  refine (isKind_yes k w1 hk).mono ?_
  rintro e w2 ⟨rfl, hw2⟩
  subst hw2
  go_wp2_with fail
  refine (H2.out _).mono ?_
  rintro e w3 ⟨rfl, hb3⟩
  go_wp2_with fail
  go_ret2
  exact ⟨rfl, bl2 hb1 hb3⟩

end Bw
end Go.Proofs.YthdhhmflfdbkhaaGreatDoor

/- What the small parts of package stuff answer: the other bit, whether a length is one, and the run that takes a bit more. -/
namespace Go.Proofs.YthdhhmflfdbkhaaGreatDoor
open Go.ChangeShapes Go.WideShapes Go.ChangeAt Go.RowKit
namespace Bw
open Bm

/-- but for one block all is as it was -/
structure AtOnly (g : Nat) (w w' : World) : Prop where
  os : w'.os = w.os
  tape : w'.tape = w.tape
  output : w'.output = w.output
  size : w'.heap.size = w.heap.size
  block : ∀ k, k ≠ g → w'.heap[k]? = w.heap[k]?
theorem AtOnly.setCell (w : World) (a : Addr) (u : Value) : AtOnly a.block w (w.setCell a u) :=
  ⟨rfl, rfl, rfl, by simp [World.setCell], fun _ hk => Below.heap_setCell _ _ _ _ hk⟩
theorem AtOnly.trans {g : Nat} {a b c : World} (h : AtOnly g a b) (k : AtOnly g b c) : AtOnly g a c :=
  ⟨k.os.trans h.os, k.tape.trans h.tape, k.output.trans h.output, k.size.trans h.size, fun i hi => (k.block i hi).trans (h.block i hi)⟩
theorem AtOnly.below {g B : Nat} {w w' : World} (h : AtOnly g w w') (hB : B ≤ g) : Below B w w' :=
  ⟨h.os, h.tape, h.output, by rw [h.size]; exact Nat.le_refl _, fun k hk => h.block k (by omega)⟩
theorem AtOnly.owns {g : Nat} {w w' : World} (h : AtOnly g w w') {base : Nat} {e : TypeId} {size : Nat} {v : Value} {n : Nat} {xs : List Value} (ho : w.ownsRow base e size v n xs) (hb : g < base) : w'.ownsRow base e size v n xs := by
  obtain ⟨h1, h2⟩ := ho
  refine ⟨h1, ?_⟩
  rcases h2 with h2 | ⟨k, cap, cur, hv, hk, hh, r⟩
  · exact Or.inl h2
  · exact Or.inr ⟨k, cap, cur, hv, hk, by rw [h.block k (by omega)]; exact hh, r⟩

def isRun (w : World) (g : Nat) (p : UInt8 × Nat) : Prop := w.heap[g]? = some (.cells #[.int .u8 p.1.toNat, .int .i64 p.2] 120 (0, 0))
theorem two_set0 {w : World} {b : Nat} {v x u : Value} {t : TypeId} (h : w.heap[b]? = some (.cells #[v, x] t (0, 0))) : (w.setCell ⟨b, 0, none⟩ u).heap[b]? = some (.cells #[u, x] t (0, 0)) := by
  have hlt := lt_of_block h
  have h' : w.heap[b] = .cells #[v, x] t (0, 0) := by simpa [Array.getElem?_eq_getElem hlt] using h
  show (w.heap.modify b _)[b]? = _
  rw [Array.getElem?_eq_getElem (by simpa using hlt), Array.getElem_modify_self, h']
  rfl
theorem two_set1 {w : World} {b : Nat} {v x u : Value} {t : TypeId} (h : w.heap[b]? = some (.cells #[v, x] t (0, 0))) : (w.setCell ⟨b, 1, none⟩ u).heap[b]? = some (.cells #[v, u] t (0, 0)) := by
  have hlt := lt_of_block h
  have h' : w.heap[b] = .cells #[v, x] t (0, 0) := by simpa [Array.getElem?_eq_getElem hlt] using h
  show (w.heap.modify b _)[b]? = _
  rw [Array.getElem?_eq_getElem (by simpa using hlt), Array.getElem_modify_self, h']
  rfl

set_option maxHeartbeats 1000000 in
theorem otherS_any (c : UInt8) (w : World) (h : bit c = true) :
    Calls Tryz.prog 83 #[.int .u8 c.toNat] w fun e w' => e = .returned (.int .u8 (otb c).toNat) ∧ w' = w := by
  rcases (bit_iff c).1 h with h | h
  · have : c = 48 := UInt8.toNat_inj.1 (by show c.toNat = 48; omega)
    subst this
    go_enter Tryz.func83, Tryz.ntmps83
    go_wp2; go_ret; exact ⟨rfl, rfl⟩
  · have : c = 49 := UInt8.toNat_inj.1 (by show c.toNat = 49; omega)
    subst this
    go_enter Tryz.func83, Tryz.ntmps83
    go_wp2; go_ret; exact ⟨rfl, rfl⟩

set_option maxHeartbeats 2000000 in
theorem add_same (g : Nat) (c : UInt8) (n : Nat) (w : World) (hn : n ≤ 1000) (hg : isRun w g (c, n)) :
    Calls Tryz.prog 93 #[.pointer (some ⟨g, 0, none⟩), .int .u8 c.toNat] w fun e w' => e = .returned (.bool ((n : Int) + 1 == 5)) ∧ isRun w' g (c, n + 1) ∧ AtOnly g w w' := by
  unfold isRun at *
  have c0 := cell_of_row w g 0 _ _ _ hg
  have c1 := cell_of_row w g 1 _ _ _ hg
  have f0 : w.frozen? ⟨g, 0, none⟩ = false := by simp [World.frozen?, hg]
  have f1 : w.frozen? ⟨g, 1, none⟩ = false := by simp [World.frozen?, hg]
  simp at c0 c1
  have HG := Hid.mk hg
  clear hg
  go_enter Tryz.func93, Tryz.ntmps93
  go_wp2
  go_ret
  exact ⟨rfl, two_set1 HG.out, AtOnly.setCell w ⟨g, 1, none⟩ _⟩

set_option maxHeartbeats 2000000 in
theorem add_other (g : Nat) (d c : UInt8) (n : Nat) (w : World) (hne : c ≠ d) (hg : isRun w g (d, n)) :
    Calls Tryz.prog 93 #[.pointer (some ⟨g, 0, none⟩), .int .u8 c.toNat] w fun e w' => e = .returned (.bool false) ∧ isRun w' g (c, 1) ∧ AtOnly g w w' := by
  unfold isRun at *
  have c0 := cell_of_row w g 0 _ _ _ hg
  have c1 := cell_of_row w g 1 _ _ _ hg
  have f0 : w.frozen? ⟨g, 0, none⟩ = false := by simp [World.frozen?, hg]
  have f1 : w.frozen? ⟨g, 1, none⟩ = false := by simp [World.frozen?, hg]
  have hne' : ((c.toNat : Int) == (d.toNat : Int)) = false := by
    have : c.toNat ≠ d.toNat := fun h => hne (UInt8.toNat_inj.1 h)
    rw [beq_eq_false_iff_ne]; omega
  have c2 := cell_of_row _ g 1 _ _ _ (two_set1 (u := .int .i64 1) (two_set1 (u := .int .i64 0) (two_set0 (u := .int .u8 c.toNat) hg)))
  simp only [List.getElem?_toArray, List.getElem?_cons_succ, List.getElem?_cons_zero] at c2
  simp at c0 c1
  have HG := Hid.mk hg
  clear hg hne
  go_enter Tryz.func93, Tryz.ntmps93
  go_wp2
  go_ret
  exact ⟨rfl, two_set1 (two_set1 (two_set0 HG.out)), ((AtOnly.setCell w ⟨g, 0, none⟩ _).trans (AtOnly.setCell _ ⟨g, 1, none⟩ _)).trans (AtOnly.setCell _ ⟨g, 1, none⟩ _)⟩

theorem add_any (g : Nat) (p : UInt8 × Nat) (c : UInt8) (w : World) (hn : p.2 ≤ 1000) (hg : isRun w g p) :
    Calls Tryz.prog 93 #[.pointer (some ⟨g, 0, none⟩), .int .u8 c.toNat] w fun e w' => e = .returned (.bool ((addR p c).2 == 5)) ∧ isRun w' g (addR p c) ∧ AtOnly g w w' := by
  by_cases h : c = p.1
  · subst h
    rw [addR_same]
    refine (add_same g p.1 p.2 w hn hg).mono ?_
    rintro e w' ⟨rfl, h1, h2⟩
    refine ⟨?_, h1, h2⟩
    congr 2
    rw [Bool.eq_iff_iff]
    simp only [beq_iff_eq]
    omega
  · rw [addR_other h]
    exact add_other g p.1 c p.2 w h hg

set_option maxHeartbeats 400000 in
theorem isLength_yes (n : Int) (w : World) (h0 : 0 ≤ n) (h1 : n ≤ 1000) :
    Calls Tryz.prog 105 #[.int .i64 n] w fun e w' => e = .returned (.bool true) ∧ w' = w := by
  go_enter Tryz.func105, Tryz.ntmps105
  go_wp2; go_ret; exact ⟨rfl, rfl⟩
set_option maxHeartbeats 400000 in
theorem isLength_no (n : Int) (w : World) (h : n < 0 ∨ 1000 < n) :
    Calls Tryz.prog 105 #[.int .i64 n] w fun e w' => e = .returned (.bool false) ∧ w' = w := by
  by_cases h0 : n < 0
  · clear h
    go_enter Tryz.func105, Tryz.ntmps105
    go_wp2; go_ret; exact ⟨rfl, rfl⟩
  · have h1 : 1000 < n := by omega
    have h2 : 0 ≤ n := by omega
    have h3 : decide (n ≤ 1000) = false := by simpa using h1
    clear h h0
    go_enter Tryz.func105, Tryz.ntmps105
    go_wp2; go_ret; exact ⟨rfl, rfl⟩
end Bw
end Go.Proofs.YthdhhmflfdbkhaaGreatDoor
