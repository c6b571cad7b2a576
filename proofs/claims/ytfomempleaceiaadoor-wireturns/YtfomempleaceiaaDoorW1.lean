/- What slices.Index and slices.Contains answer of numbers. -/
import Derived.Test.YtfomempleaceiaaDoorC1
import Derived.Test.YtfomempleaceiaaDoorC13
import Derived.Test.YtfomempleaceiaaDoorC2
namespace Go.Proofs.YtfomempleaceiaaDoor
namespace Bw
open Bm

/-- the first place at which two rows differ, -1 if none within both -/
def difA : List UInt8 → List UInt8 → Nat → Int
  | x :: a, y :: b, i => if x = y then difA a b (i + 1) else i
  | [], _, _ => -1
  | _ :: _, [], _ => -1
def dif (a b : List UInt8) : Int := difA a b 0
theorem difA_cases : ∀ (a b : List UInt8) (i : Nat), (difA a b i = -1 ∧ (a <+: b ∨ b <+: a)) ∨ (∃ k : Nat, difA a b i = (i + k : Nat) ∧ k < a.length ∧ k < b.length ∧ a.take k = b.take k ∧ a.getD k 0 ≠ b.getD k 0)
  | [], b, _ => .inl ⟨by cases b <;> rfl, .inl (List.nil_prefix)⟩
  | _ :: _, [], _ => .inl ⟨rfl, .inr (List.nil_prefix)⟩
  | x :: a, y :: b, i => by
    by_cases h : x = y
    · subst h
      have e : difA (x :: a) (x :: b) i = difA a b (i + 1) := by rw [difA, if_pos rfl]
      rw [e]
      rcases difA_cases a b (i + 1) with ⟨h1, h2⟩ | ⟨k, h1, h2, h3, h4, h5⟩
      · refine .inl ⟨h1, ?_⟩
        rcases h2 with h2 | h2
        · exact .inl ((List.cons_prefix_cons).2 ⟨rfl, h2⟩)
        · exact .inr ((List.cons_prefix_cons).2 ⟨rfl, h2⟩)
      · exact .inr ⟨k + 1, by rw [h1]; congr 1; omega, by simpa using h2, by simpa using h3, by simp [h4], by simpa using h5⟩
    · exact .inr ⟨0, by rw [difA, if_neg h]; rfl, by simp, by simp, rfl, by simpa using h⟩
theorem dif_cases (a b : List UInt8) : (dif a b = -1 ∧ (a <+: b ∨ b <+: a)) ∨ (∃ k : Nat, dif a b = k ∧ k < a.length ∧ k < b.length ∧ a.take k = b.take k ∧ a.getD k 0 ≠ b.getD k 0) := by
  rcases difA_cases a b 0 with h | ⟨k, h1, h2⟩
  · exact .inl h
  · exact .inr ⟨k, by unfold dif; rw [h1]; congr 1; omega, h2⟩
theorem dif_self (a : List UInt8) : dif a a = -1 := by
  rcases dif_cases a a with h | ⟨k, _, _, _, _, h⟩
  · exact h.1
  · exact absurd rfl h
/-- none of these is the beginning of another one -/
def Apart (rows : List (List UInt8)) : Prop := ∀ a ∈ rows, ∀ b ∈ rows, a <+: b → a = b
theorem dif_neg {rows : List (List UInt8)} (hA : Apart rows) {a b : List UInt8} (ha : a ∈ rows) (hb : b ∈ rows) : dif a b = -1 ↔ a = b := by
  constructor
  · intro h
    rcases dif_cases a b with ⟨_, h1 | h1⟩ | ⟨k, h1, _⟩
    · exact hA a ha b hb h1
    · exact (hA b hb a ha h1).symm
    · rw [h1] at h; omega
  · rintro rfl; exact dif_self a
/-- at which bit one gave way, so many bits having been sent -/
def gaveA (best : List UInt8) (n : Nat) (r : List UInt8) : Int := if 0 ≤ dif r best ∧ dif r best < n then dif r best else -1
theorem gaveA_zero (best r : List UInt8) : gaveA best 0 r = -1 := by unfold gaveA; rw [if_neg (by omega)]
theorem dif_lt (r best : List UInt8) : dif r best < best.length := by
  rcases dif_cases r best with ⟨h, _⟩ | ⟨k, h, _, h2, _⟩ <;> omega
theorem gaveA_all (best r : List UInt8) (n : Nat) (h : best.length ≤ n) : gaveA best n r = dif r best := by
  unfold gaveA
  have h1 := dif_lt r best
  by_cases h0 : 0 ≤ dif r best
  · rw [if_pos ⟨h0, by omega⟩]
  · rw [if_neg (fun h => h0 h.1)]
    rcases dif_cases r best with ⟨h, _⟩ | ⟨k, h, _⟩ <;> omega
/-- who still sends has sent the same bits so far, and has one more -/
theorem gave_on {rows : List (List UInt8)} (hA : Apart rows) {r best : List UInt8} (hr : r ∈ rows) (hb : best ∈ rows) {n : Nat} (hn : n < best.length) (h : gaveA best n r = -1) : n < r.length ∧ r.take n = best.take n := by
  unfold gaveA at h
  rcases dif_cases r best with ⟨h1, h2⟩ | ⟨k, h1, h2, h3, h4, h5⟩
  · have e := (dif_neg hA hr hb).1 h1
    rw [e]; exact ⟨hn, rfl⟩
  · have hk : n ≤ k := by
      rcases Nat.lt_or_ge k n with hx | hx
      · rw [if_pos (by omega)] at h; omega
      · exact hx
    refine ⟨by omega, ?_⟩
    have := congrArg (List.take n) h4
    rw [List.take_take, List.take_take, Nat.min_eq_left hk] at this
    exact this
theorem gave_off {rows : List (List UInt8)} (hA : Apart rows) {r best : List UInt8} (hr : r ∈ rows) (hb : best ∈ rows) {n : Nat} (hn : best.length ≤ n) (h : gaveA best n r = -1) : r = best := by
  rw [gaveA_all best r n hn] at h
  exact (dif_neg hA hr hb).1 h
/-- one text is ahead of another -/
theorem less_cases : ∀ (a b : List UInt8), Op.bytesLess a b = true ↔ (a <+: b ∧ a ≠ b) ∨ (∃ k, k < a.length ∧ k < b.length ∧ a.take k = b.take k ∧ a.getD k 0 < b.getD k 0)
  | [], [] => by simp [Op.bytesLess]
  | [], y :: b => by simp [Op.bytesLess]
  | x :: a, [] => by simp [Op.bytesLess]
  | x :: a, y :: b => by
    have ih := less_cases a b
    by_cases h : x = y
    · subst h
      have e : Op.bytesLess (x :: a) (x :: b) = Op.bytesLess a b := by simp [Op.bytesLess]
      rw [e, ih]
      constructor
      · rintro (⟨h1, h2⟩ | ⟨k, h1, h2, h3, h4⟩)
        · exact .inl ⟨(List.cons_prefix_cons).2 ⟨rfl, h1⟩, fun e => h2 (by injection e)⟩
        · exact .inr ⟨k + 1, by simpa using h1, by simpa using h2, by simp [h3], by simpa using h4⟩
      · rintro (⟨h1, h2⟩ | ⟨k, h1, h2, h3, h4⟩)
        · exact .inl ⟨((List.cons_prefix_cons).1 h1).2, fun e => h2 (by rw [e])⟩
        · cases k with
          | zero => simp at h4
          | succ k => exact .inr ⟨k, by simpa using h1, by simpa using h2, by simpa using h3, by simpa using h4⟩
    · have e : Op.bytesLess (x :: a) (y :: b) = decide (x < y) := by simp [Op.bytesLess, h]
      rw [e]
      constructor
      · intro hlt
        exact .inr ⟨0, by simp, by simp, rfl, by simpa using hlt⟩
      · rintro (⟨h1, h2⟩ | ⟨k, h1, h2, h3, h4⟩)
        · exact absurd ((List.cons_prefix_cons).1 h1).1 h
        · cases k with
          | zero => simpa using h4
          | succ k => simp at h3; exact absurd h3.1 h
/-- none is ahead of this one -/
def Least (rows : List (List UInt8)) (best : List UInt8) : Prop := best ∈ rows ∧ ∀ r ∈ rows, Op.bytesLess r best = false
/-- where the least one sends a 1, so do all that still send -/
theorem least_one {rows : List (List UInt8)} (hA : Apart rows) (hrow : ∀ r ∈ rows, rowB r = true) {best r : List UInt8} (hL : Least rows best) (hr : r ∈ rows) {n : Nat} (hn : n < best.length) (h : gaveA best n r = -1) (h1 : best.getD n 0 = 49) : r.getD n 0 = 49 := by
  obtain ⟨h2, h3⟩ := gave_on hA hr hL.1 hn h
  have hbit : bit (r.getD n 0) = true := by
    rw [List.getD, List.getElem?_eq_getElem h2, Option.getD_some]
    have := hrow r hr
    unfold rowB at this
    exact List.all_eq_true.1 this _ (List.getElem_mem h2)
  have hno : ¬ (r.getD n 0 < best.getD n 0) := by
    intro hlt
    have := hL.2 r hr
    rw [(less_cases r best).2 (.inr ⟨n, h2, hn, h3, hlt⟩)] at this
    cases this
  rw [h1] at hno
  rcases (bit_iff (r.getD n 0)).1 hbit with hx | hx
  · exfalso
    apply hno
    rw [UInt8.lt_iff_toNat_lt]
    show (r.getD n 0).toNat < 49
    omega
  · have : (r.getD n 0).toNat = 49 := by omega
    exact UInt8.toNat_inj.1 this
theorem gave_next {rows : List (List UInt8)} (hA : Apart rows) {r best : List UInt8} (hr : r ∈ rows) (hb : best ∈ rows) {n : Nat} (hn : n < best.length) : gaveA best (n + 1) r = if gaveA best n r = -1 ∧ r.getD n 0 ≠ best.getD n 0 then (n : Int) else gaveA best n r := by
  by_cases h : gaveA best n r = -1
  · obtain ⟨h2, h3⟩ := gave_on hA hr hb hn h
    by_cases hx : r.getD n 0 = best.getD n 0
    · rw [if_neg (fun y => y.2 hx), h]
      unfold gaveA at h ⊢
      rcases dif_cases r best with ⟨q1, q2⟩ | ⟨k, q1, q2, q3, q4, q5⟩
      · rw [if_neg (by omega)]
      · have hk : n ≤ k := by
          rcases Nat.lt_or_ge k n with hy | hy
          · rw [if_pos (by omega)] at h; omega
          · exact hy
        have hk2 : k ≠ n := fun e => q5 (by rw [e]; exact hx)
        rw [if_neg (by omega)]
    · rw [if_pos ⟨h, hx⟩]
      unfold gaveA at h ⊢
      rcases dif_cases r best with ⟨q1, q2⟩ | ⟨k, q1, q2, q3, q4, q5⟩
      · have e := (dif_neg hA hr hb).1 q1
        exact absurd (by rw [e]) hx
      · have hk : n ≤ k := by
          rcases Nat.lt_or_ge k n with hy | hy
          · rw [if_pos (by omega)] at h; omega
          · exact hy
        have hk2 : k = n := by
          rcases Nat.lt_or_ge n k with hy | hy
          · exfalso
            apply hx
            have := congrArg (fun l => List.getD l n 0) q4
            simpa [List.getD, List.getElem?_take, hy] using this
          · omega
        rw [if_pos (by omega), q1, hk2]
  · rw [if_neg (fun y => h y.1)]
    unfold gaveA at h ⊢
    have hx : 0 ≤ dif r best ∧ dif r best < n := by
      rcases Classical.em (0 ≤ dif r best ∧ dif r best < n) with y | y
      · exact y
      · rw [if_neg y] at h; exact absurd rfl h
    rw [if_pos hx, if_pos (by omega)]
end Bw
end Go.Proofs.YtfomempleaceiaaDoor
namespace Go.Proofs.YtfomempleaceiaaDoor
namespace Bw
open Bm

/-- who of the first k sends this bit at place n -/
def sends (rows : List (List UInt8)) (lost : List Int) (n : Nat) (i : Nat) : Bool := lost.getD i 0 == -1 && decide (n < (rows.getD i []).length)
def isZ (rows : List (List UInt8)) (n : Nat) (i : Nat) : Bool := (rows.getD i []).getD n 0 == 48
def zerK (rows : List (List UInt8)) (lost : List Int) (n : Nat) : Nat → List Int
  | 0 => []
  | k + 1 => if sends rows lost n k && isZ rows n k then zerK rows lost n k ++ [(k : Int)] else zerK rows lost n k
def oneK (rows : List (List UInt8)) (lost : List Int) (n : Nat) : Nat → List Int
  | 0 => []
  | k + 1 => if sends rows lost n k && !isZ rows n k then oneK rows lost n k ++ [(k : Int)] else oneK rows lost n k
theorem zerK_mem (rows : List (List UInt8)) (lost : List Int) (n : Nat) (x : Int) : ∀ k, x ∈ zerK rows lost n k ↔ ∃ i : Nat, i < k ∧ x = i ∧ sends rows lost n i = true ∧ isZ rows n i = true
  | 0 => by simp [zerK]
  | k + 1 => by
    rw [zerK]
    by_cases h : (sends rows lost n k && isZ rows n k) = true
    · rw [if_pos h, List.mem_append, zerK_mem rows lost n x k, List.mem_singleton]
      rw [Bool.and_eq_true] at h
      constructor
      · rintro (⟨i, h1, h2⟩ | rfl)
        · exact ⟨i, by omega, h2⟩
        · exact ⟨k, by omega, rfl, h⟩
      · rintro ⟨i, h1, h2, h3⟩
        rcases Nat.lt_or_ge i k with hx | hx
        · exact .inl ⟨i, hx, h2, h3⟩
        · have : i = k := by omega
          subst this; exact .inr h2
    · rw [if_neg h, zerK_mem rows lost n x k]
      constructor
      · rintro ⟨i, h1, h2⟩; exact ⟨i, by omega, h2⟩
      · rintro ⟨i, h1, h2, h3⟩
        rcases Nat.lt_or_ge i k with hx | hx
        · exact ⟨i, hx, h2, h3⟩
        · have : i = k := by omega
          subst this; exact absurd (Bool.and_eq_true _ _ ▸ h3) h
theorem oneK_mem (rows : List (List UInt8)) (lost : List Int) (n : Nat) (x : Int) : ∀ k, x ∈ oneK rows lost n k ↔ ∃ i : Nat, i < k ∧ x = i ∧ sends rows lost n i = true ∧ isZ rows n i = false
  | 0 => by simp [oneK]
  | k + 1 => by
    rw [oneK]
    by_cases h : (sends rows lost n k && !isZ rows n k) = true
    · rw [if_pos h, List.mem_append, oneK_mem rows lost n x k, List.mem_singleton]
      rw [Bool.and_eq_true, Bool.not_eq_true'] at h
      constructor
      · rintro (⟨i, h1, h2⟩ | rfl)
        · exact ⟨i, by omega, h2⟩
        · exact ⟨k, by omega, rfl, h⟩
      · rintro ⟨i, h1, h2, h3⟩
        rcases Nat.lt_or_ge i k with hx | hx
        · exact .inl ⟨i, hx, h2, h3⟩
        · have : i = k := by omega
          subst this; exact .inr h2
    · rw [if_neg h, oneK_mem rows lost n x k]
      constructor
      · rintro ⟨i, h1, h2⟩; exact ⟨i, by omega, h2⟩
      · rintro ⟨i, h1, h2, h3⟩
        rcases Nat.lt_or_ge i k with hx | hx
        · exact ⟨i, hx, h2, h3⟩
        · have : i = k := by omega
          subst this
          exact absurd (by rw [h3.1, h3.2]; rfl) h
theorem zerK_len (rows : List (List UInt8)) (lost : List Int) (n : Nat) : ∀ k, (zerK rows lost n k).length ≤ k
  | 0 => by simp [zerK]
  | k + 1 => by rw [zerK]; have := zerK_len rows lost n k; split <;> simp <;> omega
theorem oneK_len (rows : List (List UInt8)) (lost : List Int) (n : Nat) : ∀ k, (oneK rows lost n k).length ≤ k
  | 0 => by simp [oneK]
  | k + 1 => by rw [oneK]; have := oneK_len rows lost n k; split <;> simp <;> omega
/-- each of these gives way at place n -/
def giveK (lost : List Int) (n : Nat) (ones : List Int) : Nat → List Int
  | 0 => lost
  | k + 1 => (giveK lost n ones k).set (ones.getD k 0).toNat n
theorem giveK_len (lost : List Int) (n : Nat) (ones : List Int) : ∀ k, (giveK lost n ones k).length = lost.length
  | 0 => rfl
  | k + 1 => by rw [giveK, List.length_set, giveK_len lost n ones k]
theorem giveK_at (lost : List Int) (n : Nat) (ones : List Int) (hp : ∀ x ∈ ones, 0 ≤ x) (i : Nat) (hi : i < lost.length) : ∀ k, k ≤ ones.length → (giveK lost n ones k).getD i 0 = if (i : Int) ∈ ones.take k then (n : Int) else lost.getD i 0
  | 0, _ => by simp [giveK]
  | k + 1, hk => by
    have hlt : k < ones.length := by omega
    have ih := giveK_at lost n ones hp i hi k (by omega)
    have e : ones.getD k 0 = ones[k] := by simp [List.getD, hlt]
    rw [giveK, List.take_succ_eq_append_getElem hlt, e]
    have h0 := hp ones[k] (List.getElem_mem hlt)
    by_cases hx : ones[k].toNat = i
    · rw [if_pos (by rw [List.mem_append, List.mem_singleton]; right; omega)]
      simp [List.getD, hx, giveK_len, hi]
    · have hne : ¬ (i : Int) = ones[k] := by omega
      have e2 : ((giveK lost n ones k).set ones[k].toNat (n : Int)).getD i 0 = (giveK lost n ones k).getD i 0 := by
        simp [List.getD, List.getElem?_set_ne hx]
      rw [e2, ih]
      by_cases hm : (i : Int) ∈ ones.take k
      · rw [if_pos hm, if_pos (List.mem_append_left _ hm)]
      · rw [if_neg hm, if_neg]
        rw [List.mem_append, List.mem_singleton]
        rintro (h | h)
        · exact hm h
        · exact hne h
/-- who gave way, so many bits having been sent -/
def lostL (rows : List (List UInt8)) (best : List UInt8) (n : Nat) : List Int := rows.map (gaveA best n)
theorem lostL_len (rows : List (List UInt8)) (best : List UInt8) (n : Nat) : (lostL rows best n).length = rows.length := by simp [lostL]
theorem lostL_at (rows : List (List UInt8)) (best : List UInt8) (n i : Nat) (hi : i < rows.length) : (lostL rows best n).getD i 0 = gaveA best n (rows.getD i []) := by
  simp [lostL, List.getD, hi]
theorem row_mem (rows : List (List UInt8)) (i : Nat) (hi : i < rows.length) : rows.getD i [] ∈ rows := by
  have : rows.getD i [] = rows[i] := by simp [List.getD, hi]
  rw [this]; exact List.getElem_mem hi
theorem row_idx {rows : List (List UInt8)} {r : List UInt8} (h : r ∈ rows) : ∃ i, i < rows.length ∧ rows.getD i [] = r := by
  obtain ⟨i, hi, rfl⟩ := List.getElem_of_mem h
  exact ⟨i, hi, by simp [List.getD, hi]⟩
theorem sends_iff (rows : List (List UInt8)) (best : List UInt8) (n i : Nat) (hi : i < rows.length) : sends rows (lostL rows best n) n i = true ↔ gaveA best n (rows.getD i []) = -1 ∧ n < (rows.getD i []).length := by
  unfold sends
  rw [lostL_at rows best n i hi]
  simp
/-- behind the last bit nobody sends -/
theorem none_left {rows : List (List UInt8)} (hA : Apart rows) {best : List UInt8} (hb : best ∈ rows) : zerK rows (lostL rows best best.length) best.length rows.length = [] ∧ oneK rows (lostL rows best best.length) best.length rows.length = [] := by
  have key : ∀ i, i < rows.length → sends rows (lostL rows best best.length) best.length i = true → False := by
    intro i hi h
    obtain ⟨h1, h2⟩ := (sends_iff rows best best.length i hi).1 h
    have e := gave_off hA (row_mem rows i hi) hb (Nat.le_refl _) h1
    rw [e] at h2; omega
  constructor
  · rw [List.eq_nil_iff_forall_not_mem]
    intro x hx
    obtain ⟨i, h1, _, h3, _⟩ := (zerK_mem rows _ _ x rows.length).1 hx
    exact key i h1 h3
  · rw [List.eq_nil_iff_forall_not_mem]
    intro x hx
    obtain ⟨i, h1, _, h3, _⟩ := (oneK_mem rows _ _ x rows.length).1 hx
    exact key i h1 h3
theorem best_sends {rows : List (List UInt8)} {best : List UInt8} (n i : Nat) (hn : n < best.length) (hi : i < rows.length) (h : rows.getD i [] = best) : sends rows (lostL rows best n) n i = true := by
  rw [sends_iff rows best n i hi, h]
  refine ⟨?_, hn⟩
  unfold gaveA
  rw [dif_self, if_neg (by omega)]
/-- where the bus bears a 1 nobody sends a 0, and nobody gives way -/
theorem one_step {rows : List (List UInt8)} (hA : Apart rows) (hrow : ∀ r ∈ rows, rowB r = true) {best : List UInt8} (hL : Least rows best) {n : Nat} (hn : n < best.length) (h1 : best.getD n 0 = 49) :
    zerK rows (lostL rows best n) n rows.length = [] ∧ oneK rows (lostL rows best n) n rows.length ≠ [] ∧ lostL rows best (n + 1) = lostL rows best n := by
  refine ⟨?_, ?_, ?_⟩
  · rw [List.eq_nil_iff_forall_not_mem]
    intro x hx
    obtain ⟨i, hi, _, h3, h4⟩ := (zerK_mem rows _ _ x rows.length).1 hx
    obtain ⟨h5, h6⟩ := (sends_iff rows best n i hi).1 h3
    have := least_one hA hrow hL (row_mem rows i hi) hn h5 h1
    unfold isZ at h4
    rw [this] at h4
    exact absurd h4 (by decide)
  · obtain ⟨i, hi, he⟩ := row_idx hL.1
    have : (i : Int) ∈ oneK rows (lostL rows best n) n rows.length := (oneK_mem rows _ _ _ rows.length).2 ⟨i, hi, rfl, best_sends n i hn hi he, by unfold isZ; rw [he, h1]; decide⟩
    intro h; rw [h] at this; cases this
  · unfold lostL
    refine List.map_congr_left fun r hr => ?_
    rw [gave_next hA hr hL.1 hn]
    by_cases h : gaveA best n r = -1
    · rw [if_neg (fun y => y.2 (by rw [least_one hA hrow hL hr hn h h1, h1]))]
    · rw [if_neg (fun y => h y.1)]
theorem zero_step {rows : List (List UInt8)} (hA : Apart rows) {best : List UInt8} (hb : best ∈ rows) {n : Nat} (hn : n < best.length) (h0 : best.getD n 0 = 48) :
    zerK rows (lostL rows best n) n rows.length ≠ [] ∧ giveK (lostL rows best n) n (oneK rows (lostL rows best n) n rows.length) (oneK rows (lostL rows best n) n rows.length).length = lostL rows best (n + 1) := by
  refine ⟨?_, ?_⟩
  · obtain ⟨i, hi, he⟩ := row_idx hb
    have : (i : Int) ∈ zerK rows (lostL rows best n) n rows.length := (zerK_mem rows _ _ _ rows.length).2 ⟨i, hi, rfl, best_sends n i hn hi he, by unfold isZ; rw [he, h0]; decide⟩
    intro h; rw [h] at this; cases this
  · have hp : ∀ x ∈ oneK rows (lostL rows best n) n rows.length, 0 ≤ x := by
      intro x hx
      obtain ⟨i, _, h2, _⟩ := (oneK_mem rows _ _ x rows.length).1 hx
      omega
    refine List.ext_getElem (by rw [giveK_len, lostL_len, lostL_len]) fun i hi1 hi2 => ?_
    have hi : i < rows.length := by rw [lostL_len] at hi2; exact hi2
    have e1 := giveK_at (lostL rows best n) n _ hp i (by rw [lostL_len]; exact hi) _ (Nat.le_refl (oneK rows (lostL rows best n) n rows.length).length)
    rw [List.take_length] at e1
    have e2 := lostL_at rows best (n + 1) i hi
    have g1 : (giveK (lostL rows best n) n (oneK rows (lostL rows best n) n rows.length) (oneK rows (lostL rows best n) n rows.length).length).getD i 0 = (giveK (lostL rows best n) n (oneK rows (lostL rows best n) n rows.length) (oneK rows (lostL rows best n) n rows.length).length)[i] := by simp [List.getD, hi1]
    have g2 : (lostL rows best (n + 1)).getD i 0 = (lostL rows best (n + 1))[i] := by simp [List.getD, hi2]
    rw [← g1, ← g2, e1, e2, gave_next hA (row_mem rows i hi) hb hn, lostL_at rows best n i hi, h0]
    have hiff : ((i : Int) ∈ oneK rows (lostL rows best n) n rows.length) ↔ (gaveA best n (rows.getD i []) = -1 ∧ (rows.getD i []).getD n 0 ≠ 48) := by
      rw [oneK_mem]
      constructor
      · rintro ⟨j, h1, h2, h3, h4⟩
        have : j = i := by omega
        subst this
        refine ⟨((sends_iff rows best n j hi).1 h3).1, ?_⟩
        unfold isZ at h4
        simpa using h4
      · rintro ⟨h1, h2⟩
        refine ⟨i, hi, rfl, (sends_iff rows best n i hi).2 ⟨h1, (gave_on hA (row_mem rows i hi) hb hn h1).1⟩, ?_⟩
        unfold isZ
        simpa using h2
    by_cases hx : gaveA best n (rows.getD i []) = -1 ∧ (rows.getD i []).getD n 0 ≠ 48
    · rw [if_pos (hiff.2 hx), if_pos hx]
    · rw [if_neg (fun h => hx (hiff.1 h)), if_neg hx]
theorem lost_start (rows : List (List UInt8)) (best : List UInt8) : lostL rows best 0 = List.replicate rows.length (-1) := by
  unfold lostL
  rw [List.eq_replicate_iff]
  refine ⟨by simp, fun x hx => ?_⟩
  obtain ⟨r, _, rfl⟩ := List.mem_map.1 hx
  exact gaveA_zero best r
theorem lost_end (rows : List (List UInt8)) (best : List UInt8) : lostL rows best best.length = rows.map fun r => dif r best := by
  unfold lostL
  exact List.map_congr_left fun r _ => gaveA_all best r _ (Nat.le_refl _)
end Bw
end Go.Proofs.YtfomempleaceiaaDoor
namespace Go.Proofs.YtfomempleaceiaaDoor
namespace Bw
open Bm

/-- where v stands first, or -1 -/
def idxG {α : Type} [DecidableEq α] : List α → α → Int
  | [], _ => -1
  | x :: xs, v => if x = v then 0 else if idxG xs v = -1 then -1 else idxG xs v + 1
theorem idxG_ge {α : Type} [DecidableEq α] (xs : List α) (v : α) : -1 ≤ idxG xs v ∧ idxG xs v < xs.length := by
  induction xs with
  | nil => simp [idxG]
  | cons x xs ih =>
    rw [idxG, List.length_cons]
    split
    · omega
    · split <;> omega
theorem idxG_app {α : Type} [DecidableEq α] (a b : List α) (v : α) (h : v ∉ a) : idxG (a ++ b) v = if idxG b v = -1 then -1 else idxG b v + a.length := by
  induction a with
  | nil => simp
  | cons x a ih =>
    have h1 : x ≠ v := fun e => h (by rw [e]; exact List.mem_cons_self)
    have h2 : v ∉ a := fun e => h (List.mem_cons_of_mem _ e)
    have hb := idxG_ge b v
    rw [List.cons_append, idxG, if_neg h1, ih h2, List.length_cons]
    split
    · simp
    · rw [if_neg (by omega)]; omega
theorem idxG_at {α : Type} [DecidableEq α] (a b : List α) (v : α) (h : v ∉ a) : idxG (a ++ v :: b) v = a.length := by
  rw [idxG_app a _ v h, idxG, if_pos rfl]; simp
theorem idxG_none {α : Type} [DecidableEq α] (a : List α) (v : α) (h : v ∉ a) : idxG a v = -1 := by
  have := idxG_app a [] v h
  simpa [idxG] using this
theorem firstG {α : Type} [DecidableEq α] {xs : List α} {v : α} (h : v ∈ xs) : ∃ a b, xs = a ++ v :: b ∧ v ∉ a := by
  induction xs with
  | nil => cases h
  | cons x xs ih =>
    by_cases e : x = v
    · exact ⟨[], xs, by rw [e]; rfl, by simp⟩
    · have h' : v ∈ xs := by
        rcases List.mem_cons.1 h with h | h
        · exact absurd h.symm e
        · exact h
      obtain ⟨a, b, rfl, ha⟩ := ih h'
      exact ⟨x :: a, b, rfl, by
        intro hm
        rcases List.mem_cons.1 hm with hm | hm
        · exact e hm.symm
        · exact ha hm⟩
theorem idxG_hit {α : Type} [DecidableEq α] (xs : List α) (v d : α) (j : Nat) (hj : j < xs.length) (h : v ∉ xs.take j) (he : v = xs.getD j d) : idxG xs v = j := by
  have e1 : xs = xs.take j ++ xs.drop j := (List.take_append_drop j xs).symm
  have e2 : xs.drop j = v :: xs.drop (j + 1) := by rw [List.drop_eq_getElem_cons hj, he]; simp [List.getD, hj]
  have e3 := idxG_at (xs.take j) (xs.drop (j + 1)) v h
  rw [← e2, ← e1, List.length_take] at e3
  omega
theorem idxG_next {α : Type} [DecidableEq α] (xs : List α) (v d : α) (j : Nat) (hj : j < xs.length) (h : v ∉ xs.take j) (he : v ≠ xs.getD j d) : v ∉ xs.take (j + 1) := by
  rw [List.take_succ_eq_append_getElem hj, List.mem_append, List.mem_singleton]
  rintro (h' | h')
  · exact h h'
  · exact he (by rw [h']; simp [List.getD, hj])
theorem idxG_pos {α : Type} [DecidableEq α] (xs : List α) (v : α) : 0 ≤ idxG xs v ↔ v ∈ xs := by
  by_cases h : v ∈ xs
  · obtain ⟨a, b, rfl, ha⟩ := firstG h
    rw [idxG_at a b v ha]; simp [h]
  · rw [idxG_none xs v h]; simp [h]
/-- what 'only' tells: the error, and the place -/
def onlyE {α : Type} [DecidableEq α] (l : List α) (x : α) : Int := if idxG l x < 0 then 8 else if x ∈ l.drop ((idxG l x).toNat + 1) then 9 else 0
def onlyN {α : Type} [DecidableEq α] (l : List α) (x : α) : Int := if onlyE l x = 0 then idxG l x else 0
theorem onlyE_mem {α : Type} [DecidableEq α] {l : List α} {x : α} (h : x ∈ l) : onlyE l x = if 1 < l.count x then 9 else 0 := by
  obtain ⟨a, b, rfl, ha⟩ := firstG h
  unfold onlyE
  have hc : (a ++ x :: b).count x = b.count x + 1 := by
    rw [List.count_append, List.count_cons_self, List.count_eq_zero.2 ha]; omega
  have hd : (a ++ x :: b).drop (((a.length : Nat) : Int).toNat + 1) = b := by
    rw [Int.toNat_natCast, ← List.drop_drop, List.drop_left]; rfl
  rw [idxG_at a b x ha, if_neg (by omega), hd, hc]
  by_cases hb : x ∈ b
  · rw [if_pos hb, if_pos (by have := List.count_pos_iff.2 hb; omega)]
  · rw [if_neg hb, if_neg (by rw [List.count_eq_zero.2 hb]; omega)]
/-- the rows' least, told by where all others part from it -/
theorem dif_count {rows : List (List UInt8)} (hA : Apart rows) {best : List UInt8} (hb : best ∈ rows) : ((rows.map fun r => dif r best).count (-1)) = rows.count best := by
  have key : ∀ l : List (List UInt8), (∀ r ∈ l, r ∈ rows) → (l.map fun r => dif r best).count (-1) = l.count best := by
    intro l
    induction l with
    | nil => intro _; rfl
    | cons r l ih =>
      intro h
      have hr := h r List.mem_cons_self
      have := ih (fun x hx => h x (List.mem_cons_of_mem _ hx))
      rw [List.map_cons]
      by_cases e : r = best
      · subst e
        rw [List.count_cons_self, dif_self, List.count_cons_self, this]
      · have hd : dif r best ≠ -1 := fun hx => e ((dif_neg hA hr hb).1 hx)
        rw [List.count_cons_of_ne hd, List.count_cons_of_ne e, this]
  exact key rows (fun _ h => h)
theorem dif_idx {rows : List (List UInt8)} (hA : Apart rows) {best : List UInt8} (hb : best ∈ rows) : idxG (rows.map fun r => dif r best) (-1) = idxG rows best := by
  have key : ∀ l : List (List UInt8), (∀ r ∈ l, r ∈ rows) → idxG (l.map fun r => dif r best) (-1) = idxG l best := by
    intro l
    induction l with
    | nil => intro _; rfl
    | cons r l ih =>
      intro h
      have hr := h r List.mem_cons_self
      have := ih (fun x hx => h x (List.mem_cons_of_mem _ hx))
      rw [List.map_cons, idxG, idxG, this]
      by_cases e : r = best
      · subst e
        rw [dif_self, if_pos rfl, if_pos rfl]
      · have hd : dif r best ≠ -1 := fun hx => e ((dif_neg hA hr hb).1 hx)
        rw [if_neg hd, if_neg e]
  exact key rows (fun _ h => h)
theorem dif_mem {rows : List (List UInt8)} {best : List UInt8} (hb : best ∈ rows) : (-1 : Int) ∈ rows.map fun r => dif r best := List.mem_map.2 ⟨best, hb, dif_self best⟩
end Bw
end Go.Proofs.YtfomempleaceiaaDoor
namespace Go.Proofs.YtfomempleaceiaaDoor
namespace Bw
open Bm
theorem beq_rows : (instBEqOfDecidableEq : BEq (List UInt8)) = List.instBEq := by
  have h : ∀ a b : List UInt8, @BEq.beq _ instBEqOfDecidableEq a b = @BEq.beq _ List.instBEq a b := fun a b =>
    Bool.eq_iff_iff.2 ((@beq_iff_eq _ instBEqOfDecidableEq _ a b).trans (@beq_iff_eq _ List.instBEq _ a b).symm)
  exact congrArg BEq.mk (funext fun a => funext fun b => h a b)
theorem onlyE_rows {l : List (List UInt8)} {x : List UInt8} (h : x ∈ l) : onlyE l x = if 1 < l.count x then 9 else 0 := by
  rw [onlyE_mem h, beq_rows]
end Bw
end Go.Proofs.YtfomempleaceiaaDoor
namespace Go.Proofs.YtfomempleaceiaaDoor
open Go.ChangeShapes Go.WideShapes Go.ChangeAt Go.RowKit
namespace Bw
/-- a frame as it lies in memory -/
structure FrV where
  f : Fr
  a : Option Addr
  len : Nat
  cap : Nat
def FrV.cells (v : FrV) : List Value := [.int .i64 v.f.id, .bool v.f.lo, .bool v.f.fa, .bool v.f.re, .int .i64 v.f.sz, .slice v.a v.len v.cap]
def FrV.val (v : FrV) : Value := frameV v.f.id v.f.lo v.f.fa v.f.re v.f.sz v.a v.len v.cap
set_option maxRecDepth 100000 in
theorem open_frame_cells {H : Type} {enc : TypeId × Value → H} {W : World} {fuel : Nat} {cs : List Value} {x : DataW H × List MemPlace} (hcs : cs.length = 6)
    (hf : DataW.trod enc Tryd.prog W 0 (fun _ => true) true fuel 30 cs = some x) :
    ∃ v : FrV, cs = v.cells ∧ IsBytes W v.a v.len v.cap v.f.dt := by
  obtain ⟨xs, n, _, rfl, _, hlen, hF⟩ := DataW.trod_struct Tryd.underlying30 hf
  obtain ⟨c0, c1, c2, c3, c4, c5, hc⟩ := six_cells hcs
  rw [hc] at hF
  have h6 : xs.length = 6 := hlen
  have g : ∀ i, i < 6 → ∃ y, xs[i]? = some y := fun i hi => ⟨xs[i]'(by omega), List.getElem?_eq_getElem (by omega)⟩
  obtain ⟨y0, e0⟩ := g 0 (by omega)
  obtain ⟨y1, e1⟩ := g 1 (by omega)
  obtain ⟨y2, e2⟩ := g 2 (by omega)
  obtain ⟨y3, e3⟩ := g 3 (by omega)
  obtain ⟨y4, e4⟩ := g 4 (by omega)
  obtain ⟨y5, e5⟩ := g 5 (by omega)
  have f0 := hF 0 _ rfl
  have f1 := hF 1 _ rfl
  have f2 := hF 2 _ rfl
  have f3 := hF 3 _ rfl
  have f4 := hF 4 _ rfl
  have f5 := hF 5 _ rfl
  rw [e0] at f0
  rw [e1] at f1
  rw [e2] at f2
  rw [e3] at f3
  rw [e4] at f4
  rw [e5] at f5
  obtain ⟨id, q0, _, w0⟩ := DataW.trod_int Tryd.underlying3 f0
  obtain ⟨lo, q1, _⟩ := DataW.trod_bool Tryd.underlying4 f1
  obtain ⟨fa, q2, _⟩ := DataW.trod_bool Tryd.underlying4 f2
  obtain ⟨re, q3, _⟩ := DataW.trod_bool Tryd.underlying4 f3
  obtain ⟨sz, q4, _, w4⟩ := DataW.trod_int Tryd.underlying3 f4
  have p0 : ([c0, c1, c2, c3, c4, c5].drop 0).take (Tryd.prog.cellsOf 3) = [.int .i64 id] := q0
  have p1 : ([c0, c1, c2, c3, c4, c5].drop 1).take (Tryd.prog.cellsOf 4) = [.bool lo] := q1
  have p2 : ([c0, c1, c2, c3, c4, c5].drop 2).take (Tryd.prog.cellsOf 4) = [.bool fa] := q2
  have p3 : ([c0, c1, c2, c3, c4, c5].drop 3).take (Tryd.prog.cellsOf 4) = [.bool re] := q3
  have p4 : ([c0, c1, c2, c3, c4, c5].drop 4).take (Tryd.prog.cellsOf 3) = [.int .i64 sz] := q4
  rw [int_c1] at p0 p4
  rw [bool_c1] at p1 p2 p3
  have q0 : c0 = .int .i64 id := by simpa using p0
  have q1 : c1 = .bool lo := by simpa using p1
  have q2 : c2 = .bool fa := by simpa using p2
  have q3 : c3 = .bool re := by simpa using p3
  have q4 : c4 = .int .i64 sz := by simpa using p4
  have hrow : ∃ a len cap zs, c5 = .slice a len cap ∧ IsRow .u8 W a len cap zs := by
    have f5 : DataW.trod enc Tryd.prog W 0 (fun _ => true) true n 28 (([c0, c1, c2, c3, c4, c5].drop 5).take (Tryd.prog.cellsOf 28)) = some y5 := f5
    rw [row_c1] at f5
    have e5 : ([c0, c1, c2, c3, c4, c5].drop 5).take 1 = [c5] := rfl
    rw [e5] at f5
    rcases open_ints Tryd.underlying28 Tryd.underlying5 byte_c1 f5 with ⟨q5, _⟩ | ⟨a, len, cap, zs, q5, _, hl, hm, hz, _, hcell, hw⟩
    · simp only [List.cons.injEq, and_true] at q5
      exact ⟨none, 0, 0, [], q5, .inl ⟨rfl, rfl, rfl, rfl⟩⟩
    · simp only [List.cons.injEq, and_true] at q5
      exact ⟨some a, len, cap, zs, q5, .inr ⟨a, rfl, hl, hm, by simpa using hz, hcell, hw⟩⟩
  obtain ⟨a, len, cap, zs, q5, hr⟩ := hrow
  obtain ⟨l, hl⟩ := isBytes_of_row hr
  refine ⟨⟨⟨id, lo, fa, re, sz, l⟩, a, len, cap⟩, ?_, hl⟩
  rw [hc, q0, q1, q2, q3, q4, q5]; rfl
/-- a list of frames that came in -/
structure IsFrames (w : World) (a : Option Addr) (n cap : Nat) (l : List FrV) : Prop where
  len : l.length = n
  le : n ≤ cap
  max : cap ≤ maxLen
  none : a = none → n = 0
  cell : ∀ x, a = some x → ∀ i (hi : i < l.length), ∀ k (hk : k < 6), w.cell? (x.add (i * 6 + k)) = some ((l[i].cells)[k]'hk)
  bytes : ∀ i (hi : i < l.length), IsBytes w l[i].a l[i].len l[i].cap l[i].f.dt
set_option maxRecDepth 100000 in
theorem open_frames {H : Type} {enc : TypeId × Value → H} {W : World} {fuel : Nat} {a : Option Addr} {n cap : Nat} {x : DataW H × List MemPlace}
    (hf : DataW.trod enc Tryd.prog W 0 (fun _ => true) true fuel 22 [.slice a n cap] = some x) : ∃ l, IsFrames W a n cap l := by
  rcases DataW.trod_slice Tryd.underlying22 hf with ⟨h0, _⟩ | ⟨y, len, cp, elems, rest, m, _, h0, _, _, hl, hm, hlen, hel, _, _⟩
  · simp only [List.cons.injEq, and_true, Value.slice.injEq] at h0
    obtain ⟨rfl, rfl, rfl⟩ := h0
    exact ⟨[], rfl, Nat.le_refl _, Nat.zero_le _, fun _ => rfl, (fun _ h => by cases h), fun i hi => absurd hi (Nat.not_lt_zero _)⟩
  · simp only [List.cons.injEq, and_true, Value.slice.injEq] at h0
    obtain ⟨rfl, rfl, rfl⟩ := h0
    have each : ∀ i, i < n → ∃ v : FrV, (∀ k (hk : k < 6), W.cell? (y.add (i * 6 + k)) = some ((v.cells)[k]'hk)) ∧ IsBytes W v.a v.len v.cap v.f.dt := by
      intro i hi
      have h1 := hel i hi
      rw [List.getElem?_eq_getElem (by omega), Option.bind_eq_some_iff] at h1
      obtain ⟨cs, h2, h3⟩ := h1
      rw [frame_c] at h2
      have h4 := World.cells?_some h2
      obtain ⟨v, rfl, hv⟩ := open_frame_cells (by exact h4.2.1) h3
      refine ⟨v, fun k hk => ?_, hv⟩
      have h5 := h4.2.2 k hk
      have e : (y.add (i * 6)).add k = y.add (i * 6 + k) := by
        first | exact Addr.add_add _ _ _ | (unfold Addr.add; simp; omega)
      rw [e] at h5
      rw [h5]
      exact List.getElem?_eq_getElem (show k < v.cells.length from hk)
    let g : Nat → FrV := fun i => if h : i < n then (each i h).choose else ⟨⟨0, false, false, false, 0, []⟩, none, 0, 0⟩
    have hg : ∀ i (h : i < n), (∀ k (hk : k < 6), W.cell? (y.add (i * 6 + k)) = some (((g i).cells)[k]'hk)) ∧ IsBytes W (g i).a (g i).len (g i).cap (g i).f.dt := by
      intro i h
      have e : g i = (each i h).choose := by show (if h : i < n then _ else _) = _; rw [dif_pos h]
      rw [e]
      exact (each i h).choose_spec
    refine ⟨(List.range n).map g, by simp, hl, hm, (fun h => by cases h), ?_, ?_⟩
    · intro z hz i hi k hk
      cases hz
      simp only [List.length_map, List.length_range] at hi
      simp only [List.getElem_map, List.getElem_range]
      exact (hg i hi).1 k hk
    · intro i hi
      simp only [List.length_map, List.length_range] at hi
      simp only [List.getElem_map, List.getElem_range]
      exact (hg i hi).2
end Bw
end Go.Proofs.YtfomempleaceiaaDoor
namespace Go.Proofs.YtfomempleaceiaaDoor
open Go.ChangeShapes Go.WideShapes Go.ChangeAt Go.RowKit
namespace Bw
open Bm

/-- these texts lie in block g, from off on -/
def StrsAt (w : World) (g off : Nat) (rows : List (List UInt8)) : Prop := ∀ i, i < rows.length → w.cell? ⟨g, off + i, none⟩ = some (.string ⟨(rows.getD i []).toArray⟩)
/-- these numbers lie in block g, from off on -/
def NumsAt (w : World) (g off : Nat) (xs : List Int) : Prop := ∀ i, i < xs.length → w.cell? ⟨g, off + i, none⟩ = some (.int .i64 (xs.getD i 0))
theorem txt_eq (a b : List UInt8) : ((ByteArray.mk a.toArray).toList == (ByteArray.mk b.toArray).toList) = decide (a = b) := by
  rw [ByteArray.toList_eq, ByteArray.toList_eq]
  by_cases h : a = b
  · subst h; simp
  · rw [decide_eq_false h]; simpa using h

set_option maxHeartbeats 1000000 in
theorem indexN (g off n c : Nat) (xs : List Int) (v : Int) (w : World) (hn : xs.length = n) (hm : n ≤ 1000) (hx : NumsAt w g off xs) :
    Calls Tryd.prog 43 #[.slice (some ⟨g, off, none⟩) n c, .int .i64 v] w fun e w' => e = .returned (.int .i64 (idxG xs v)) ∧ w' = w := by
  have HX := Hid.mk hx
  have HN := Hid.mk hn
  clear hx hn
  go_enter Tryd.func43, Tryd.ntmps43
  go_wp2_with fail
  go_loopw [8] (fun i wr => ∃ j : Nat, j ≤ n ∧ i = .int .i64 j ∧ Hid (v ∉ xs.take j) ∧ wr = w) (fun i _ => n - (intOf i).toNat)
  case atStart => exact ⟨0, Nat.zero_le _, rfl, Hid.mk (by simp), rfl⟩
  case round =>
    obtain ⟨j, hj, rfl, HV, hwr⟩ := hrel
    subst hwr
    by_cases hlt : j < n
    · have hc := HX.out j (by rw [HN.out]; exact hlt)
      have hlt' : (j : Int) < (n : Int) := by omega
      have hjl : j < xs.length := by rw [HN.out]; exact hlt
      by_cases he : v = xs.getD j 0
      · have hb : (v == xs.getD j 0) = true := by rw [← he]; simp
        have HRES := Hid.mk (idxG_hit xs v 0 j hjl HV.out he)
        generalize xs.getD j 0 = y at *
        clear hjl he
        go_wp2_with fail
        go_ret
        exact ⟨by rw [HRES.out]; rfl, rfl⟩
      · have hb : (v == xs.getD j 0) = false := by simpa using he
        have HNX := Hid.mk (idxG_next xs v 0 j hjl HV.out he)
        generalize xs.getD j 0 = y at *
        clear hjl he
        go_wp2_with fail
        go_roundw
        case rel => exact ⟨j + 1, by omega, by go_num, HNX, by first | rfl | trivial⟩
        case measure => simp [intOf]; omega
    · have e : j = n := by omega
      subst e
      have HRES := Hid.mk (idxG_none xs v (by
        have := HV.out
        rwa [← HN.out, List.take_length] at this))
      go_wp2_with fail
      go_ret
      exact ⟨by rw [HRES.out]; rfl, rfl⟩
set_option maxHeartbeats 1000000 in
theorem containsN (g off n c : Nat) (xs : List Int) (v : Int) (w : World) (hn : xs.length = n) (hm : n ≤ 1000) (hx : NumsAt w g off xs) :
    Calls Tryd.prog 23 #[.slice (some ⟨g, off, none⟩) n c, .int .i64 v] w fun e w' => e = .returned (.bool (decide (v ∈ xs))) ∧ w' = w := by
  have h1 := indexN g off n c xs v w hn hm hx
  have he : decide (0 ≤ idxG xs v) = decide (v ∈ xs) := by rw [decide_eq_decide]; exact idxG_pos xs v
  have HE := Hid.mk he
  generalize idxG xs v = q at *
  clear he hn hx
  go_enter Tryd.func23, Tryd.ntmps23
  go_wp2_with fail
  refine h1.mono ?_
  rintro e w1 ⟨rfl, hw1⟩
  subst hw1
  go_wp2_with fail
  go_ret
  exact ⟨by rw [← HE.out]; rfl, rfl⟩
end Bw
end Go.Proofs.YtfomempleaceiaaDoor
