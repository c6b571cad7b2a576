/- Joined out of our texts: WireMath, WireSendM, WireIdx, WireCnt, WireLeast, Base0, Base8, FrameTop, RowMath, RowVal, CrcMath. -/
import Derived.Test.YtdhmjbnpdmneiadDoorBitsMath
import Derived.Test.YtdhmjbnpdmneiadDoorChecked
import Derived.WalkKit
import Derived.ProofKit
import Derived.Lib.OthersKept
import Derived.Deep.QuietTactic
import Derived.BigQuiet
/- Several rows at a time on one bus: plain facts on lists; of no program. -/
namespace Go.Proofs.YtdhmjbnpdmneiadDoor
namespace Bw
open Bm

/-- the first place at which two rows differ, -1 if none within both -/
def difA : List UInt8 → List UInt8 → Nat → Int
  | x :: a, y :: b, i => if x = y then difA a b (i + 1) else i
  | [], _, _ => -1
  | _ :: _, [], _ => -1
def dif (a b : List UInt8) : Int := difA a b 0
theorem difA_cases : ∀ (a b : List UInt8) (i : Nat), (difA a b i = -1 ∧ (a <+: b ∨ b <+: a)) ∨ (∃ k : Nat, difA a b i = (i + k : Nat) ∧ k < a.length ∧ k < b.length ∧ a.take k = b.take k ∧ a.getD k 0 ≠ b.getD k 0)
  | [], b, _ => .inl ⟨by cases b <;> rfl, .inl (List.nil_prefix)⟩
  | _ :: _, [], _ => .inl ⟨rfl, .inr (List.nil_prefix)⟩
  | x :: a, y :: b, i => by
    by_cases h : x = y
    · subst h
      have e : difA (x :: a) (x :: b) i = difA a b (i + 1) := by rw [difA, if_pos rfl]
      rw [e]
      rcases difA_cases a b (i + 1) with ⟨h1, h2⟩ | ⟨k, h1, h2, h3, h4, h5⟩
      · refine .inl ⟨h1, ?_⟩
        rcases h2 with h2 | h2
        · exact .inl ((List.cons_prefix_cons).2 ⟨rfl, h2⟩)
        · exact .inr ((List.cons_prefix_cons).2 ⟨rfl, h2⟩)
      · exact .inr ⟨k + 1, by rw [h1]; congr 1; omega, by simpa using h2, by simpa using h3, by simp [h4], by simpa using h5⟩
    · exact .inr ⟨0, by rw [difA, if_neg h]; rfl, by simp, by simp, rfl, by simpa using h⟩
theorem dif_cases (a b : List UInt8) : (dif a b = -1 ∧ (a <+: b ∨ b <+: a)) ∨ (∃ k : Nat, dif a b = k ∧ k < a.length ∧ k < b.length ∧ a.take k = b.take k ∧ a.getD k 0 ≠ b.getD k 0) := by
  rcases difA_cases a b 0 with h | ⟨k, h1, h2⟩
  · exact .inl h
  · exact .inr ⟨k, by unfold dif; rw [h1]; congr 1; omega, h2⟩
theorem dif_self (a : List UInt8) : dif a a = -1 := by
  rcases dif_cases a a with h | ⟨k, _, _, _, _, h⟩
  · exact h.1
  · exact absurd rfl h
/-- none of these is the beginning of another one -/
def Apart (rows : List (List UInt8)) : Prop := ∀ a ∈ rows, ∀ b ∈ rows, a <+: b → a = b
theorem dif_neg {rows : List (List UInt8)} (hA : Apart rows) {a b : List UInt8} (ha : a ∈ rows) (hb : b ∈ rows) : dif a b = -1 ↔ a = b := by
  constructor
  · intro h
    rcases dif_cases a b with ⟨_, h1 | h1⟩ | ⟨k, h1, _⟩
    · exact hA a ha b hb h1
    · exact (hA b hb a ha h1).symm
    · rw [h1] at h; omega
  · rintro rfl; exact dif_self a
/-- at which bit one gave way, so many bits having been sent -/
def gaveA (best : List UInt8) (n : Nat) (r : List UInt8) : Int := if 0 ≤ dif r best ∧ dif r best < n then dif r best else -1
theorem gaveA_zero (best r : List UInt8) : gaveA best 0 r = -1 := by unfold gaveA; rw [if_neg (by omega)]
theorem dif_lt (r best : List UInt8) : dif r best < best.length := by
  rcases dif_cases r best with ⟨h, _⟩ | ⟨k, h, _, h2, _⟩ <;> omega
theorem gaveA_all (best r : List UInt8) (n : Nat) (h : best.length ≤ n) : gaveA best n r = dif r best := by
  unfold gaveA
  have h1 := dif_lt r best
  by_cases h0 : 0 ≤ dif r best
  · rw [if_pos ⟨h0, by omega⟩]
  · rw [if_neg (fun h => h0 h.1)]
    rcases dif_cases r best with ⟨h, _⟩ | ⟨k, h, _⟩ <;> omega
/-- who still sends has sent the same bits so far, and has one more -/
theorem gave_on {rows : List (List UInt8)} (hA : Apart rows) {r best : List UInt8} (hr : r ∈ rows) (hb : best ∈ rows) {n : Nat} (hn : n < best.length) (h : gaveA best n r = -1) : n < r.length ∧ r.take n = best.take n := by
  unfold gaveA at h
  rcases dif_cases r best with ⟨h1, h2⟩ | ⟨k, h1, h2, h3, h4, h5⟩
  · have e := (dif_neg hA hr hb).1 h1
    rw [e]; exact ⟨hn, rfl⟩
  · have hk : n ≤ k := by
      rcases Nat.lt_or_ge k n with hx | hx
      · rw [if_pos (by omega)] at h; omega
      · exact hx
    refine ⟨by omega, ?_⟩
    have := congrArg (List.take n) h4
    rw [List.take_take, List.take_take, Nat.min_eq_left hk] at this
    exact this
theorem gave_off {rows : List (List UInt8)} (hA : Apart rows) {r best : List UInt8} (hr : r ∈ rows) (hb : best ∈ rows) {n : Nat} (hn : best.length ≤ n) (h : gaveA best n r = -1) : r = best := by
  rw [gaveA_all best r n hn] at h
  exact (dif_neg hA hr hb).1 h
/-- one text is ahead of another -/
theorem less_cases : ∀ (a b : List UInt8), Op.bytesLess a b = true ↔ (a <+: b ∧ a ≠ b) ∨ (∃ k, k < a.length ∧ k < b.length ∧ a.take k = b.take k ∧ a.getD k 0 < b.getD k 0)
  | [], [] => by simp [Op.bytesLess]
  | [], y :: b => by simp [Op.bytesLess]
  | x :: a, [] => by simp [Op.bytesLess]
  | x :: a, y :: b => by
    have ih := less_cases a b
    by_cases h : x = y
    · subst h
      have e : Op.bytesLess (x :: a) (x :: b) = Op.bytesLess a b := by simp [Op.bytesLess]
      rw [e, ih]
      constructor
      · rintro (⟨h1, h2⟩ | ⟨k, h1, h2, h3, h4⟩)
        · exact .inl ⟨(List.cons_prefix_cons).2 ⟨rfl, h1⟩, fun e => h2 (by injection e)⟩
        · exact .inr ⟨k + 1, by simpa using h1, by simpa using h2, by simp [h3], by simpa using h4⟩
      · rintro (⟨h1, h2⟩ | ⟨k, h1, h2, h3, h4⟩)
        · exact .inl ⟨((List.cons_prefix_cons).1 h1).2, fun e => h2 (by rw [e])⟩
        · cases k with
          | zero => simp at h4
          | succ k => exact .inr ⟨k, by simpa using h1, by simpa using h2, by simpa using h3, by simpa using h4⟩
    · have e : Op.bytesLess (x :: a) (y :: b) = decide (x < y) := by simp [Op.bytesLess, h]
      rw [e]
      constructor
      · intro hlt
        exact .inr ⟨0, by simp, by simp, rfl, by simpa using hlt⟩
      · rintro (⟨h1, h2⟩ | ⟨k, h1, h2, h3, h4⟩)
        · exact absurd ((List.cons_prefix_cons).1 h1).1 h
        · cases k with
          | zero => simpa using h4
          | succ k => simp at h3; exact absurd h3.1 h
/-- none is ahead of this one -/
def Least (rows : List (List UInt8)) (best : List UInt8) : Prop := best ∈ rows ∧ ∀ r ∈ rows, Op.bytesLess r best = false
/-- where the least one sends a 1, so do all that still send -/
theorem least_one {rows : List (List UInt8)} (hA : Apart rows) (hrow : ∀ r ∈ rows, rowB r = true) {best r : List UInt8} (hL : Least rows best) (hr : r ∈ rows) {n : Nat} (hn : n < best.length) (h : gaveA best n r = -1) (h1 : best.getD n 0 = 49) : r.getD n 0 = 49 := by
  obtain ⟨h2, h3⟩ := gave_on hA hr hL.1 hn h
  have hbit : bit (r.getD n 0) = true := by
    rw [List.getD, List.getElem?_eq_getElem h2, Option.getD_some]
    have := hrow r hr
    unfold rowB at this
    exact List.all_eq_true.1 this _ (List.getElem_mem h2)
  have hno : ¬ (r.getD n 0 < best.getD n 0) := by
    intro hlt
    have := hL.2 r hr
    rw [(less_cases r best).2 (.inr ⟨n, h2, hn, h3, hlt⟩)] at this
    cases this
  rw [h1] at hno
  rcases (bit_iff (r.getD n 0)).1 hbit with hx | hx
  · exfalso
    apply hno
    rw [UInt8.lt_iff_toNat_lt]
    show (r.getD n 0).toNat < 49
    omega
  · have : (r.getD n 0).toNat = 49 := by omega
    exact UInt8.toNat_inj.1 this
theorem gave_next {rows : List (List UInt8)} (hA : Apart rows) {r best : List UInt8} (hr : r ∈ rows) (hb : best ∈ rows) {n : Nat} (hn : n < best.length) : gaveA best (n + 1) r = if gaveA best n r = -1 ∧ r.getD n 0 ≠ best.getD n 0 then (n : Int) else gaveA best n r := by
  by_cases h : gaveA best n r = -1
  · obtain ⟨h2, h3⟩ := gave_on hA hr hb hn h
    by_cases hx : r.getD n 0 = best.getD n 0
    · rw [if_neg (fun y => y.2 hx), h]
      unfold gaveA at h ⊢
      rcases dif_cases r best with ⟨q1, q2⟩ | ⟨k, q1, q2, q3, q4, q5⟩
      · rw [if_neg (by omega)]
      · have hk : n ≤ k := by
          rcases Nat.lt_or_ge k n with hy | hy
          · rw [if_pos (by omega)] at h; omega
          · exact hy
        have hk2 : k ≠ n := fun e => q5 (by rw [e]; exact hx)
        rw [if_neg (by omega)]
    · rw [if_pos ⟨h, hx⟩]
      unfold gaveA at h ⊢
      rcases dif_cases r best with ⟨q1, q2⟩ | ⟨k, q1, q2, q3, q4, q5⟩
      · have e := (dif_neg hA hr hb).1 q1
        exact absurd (by rw [e]) hx
      · have hk : n ≤ k := by
          rcases Nat.lt_or_ge k n with hy | hy
          · rw [if_pos (by omega)] at h; omega
          · exact hy
        have hk2 : k = n := by
          rcases Nat.lt_or_ge n k with hy | hy
          · exfalso
            apply hx
            have := congrArg (fun l => List.getD l n 0) q4
            simpa [List.getD, List.getElem?_take, hy] using this
          · omega
        rw [if_pos (by omega), q1, hk2]
  · rw [if_neg (fun y => h y.1)]
    unfold gaveA at h ⊢
    have hx : 0 ≤ dif r best ∧ dif r best < n := by
      rcases Classical.em (0 ≤ dif r best ∧ dif r best < n) with y | y
      · exact y
      · rw [if_neg y] at h; exact absurd rfl h
    rw [if_pos hx, if_pos (by omega)]
end Bw
end Go.Proofs.YtdhmjbnpdmneiadDoor

/- What several rows at a time make on one bus, step by step: plain facts on lists; of no program. -/
namespace Go.Proofs.YtdhmjbnpdmneiadDoor
namespace Bw
open Bm

/-- who of the first k sends this bit at place n -/
def sends (rows : List (List UInt8)) (lost : List Int) (n : Nat) (i : Nat) : Bool := lost.getD i 0 == -1 && decide (n < (rows.getD i []).length)
def isZ (rows : List (List UInt8)) (n : Nat) (i : Nat) : Bool := (rows.getD i []).getD n 0 == 48
def zerK (rows : List (List UInt8)) (lost : List Int) (n : Nat) : Nat → List Int
  | 0 => []
  | k + 1 => if sends rows lost n k && isZ rows n k then zerK rows lost n k ++ [(k : Int)] else zerK rows lost n k
def oneK (rows : List (List UInt8)) (lost : List Int) (n : Nat) : Nat → List Int
  | 0 => []
  | k + 1 => if sends rows lost n k && !isZ rows n k then oneK rows lost n k ++ [(k : Int)] else oneK rows lost n k
theorem zerK_mem (rows : List (List UInt8)) (lost : List Int) (n : Nat) (x : Int) : ∀ k, x ∈ zerK rows lost n k ↔ ∃ i : Nat, i < k ∧ x = i ∧ sends rows lost n i = true ∧ isZ rows n i = true
  | 0 => by simp [zerK]
  | k + 1 => by
    rw [zerK]
    by_cases h : (sends rows lost n k && isZ rows n k) = true
    · rw [if_pos h, List.mem_append, zerK_mem rows lost n x k, List.mem_singleton]
      rw [Bool.and_eq_true] at h
      constructor
      · rintro (⟨i, h1, h2⟩ | rfl)
        · exact ⟨i, by omega, h2⟩
        · exact ⟨k, by omega, rfl, h⟩
      · rintro ⟨i, h1, h2, h3⟩
        rcases Nat.lt_or_ge i k with hx | hx
        · exact .inl ⟨i, hx, h2, h3⟩
        · have : i = k := by omega
          subst this; exact .inr h2
    · rw [if_neg h, zerK_mem rows lost n x k]
      constructor
      · rintro ⟨i, h1, h2⟩; exact ⟨i, by omega, h2⟩
      · rintro ⟨i, h1, h2, h3⟩
        rcases Nat.lt_or_ge i k with hx | hx
        · exact ⟨i, hx, h2, h3⟩
        · have : i = k := by omega
          subst this; exact absurd (Bool.and_eq_true _ _ ▸ h3) h
theorem oneK_mem (rows : List (List UInt8)) (lost : List Int) (n : Nat) (x : Int) : ∀ k, x ∈ oneK rows lost n k ↔ ∃ i : Nat, i < k ∧ x = i ∧ sends rows lost n i = true ∧ isZ rows n i = false
  | 0 => by simp [oneK]
  | k + 1 => by
    rw [oneK]
    by_cases h : (sends rows lost n k && !isZ rows n k) = true
    · rw [if_pos h, List.mem_append, oneK_mem rows lost n x k, List.mem_singleton]
      rw [Bool.and_eq_true, Bool.not_eq_true'] at h
      constructor
      · rintro (⟨i, h1, h2⟩ | rfl)
        · exact ⟨i, by omega, h2⟩
        · exact ⟨k, by omega, rfl, h⟩
      · rintro ⟨i, h1, h2, h3⟩
        rcases Nat.lt_or_ge i k with hx | hx
        · exact .inl ⟨i, hx, h2, h3⟩
        · have : i = k := by omega
          subst this; exact .inr h2
    · rw [if_neg h, oneK_mem rows lost n x k]
      constructor
      · rintro ⟨i, h1, h2⟩; exact ⟨i, by omega, h2⟩
      · rintro ⟨i, h1, h2, h3⟩
        rcases Nat.lt_or_ge i k with hx | hx
        · exact ⟨i, hx, h2, h3⟩
        · have : i = k := by omega
          subst this
          exact absurd (by rw [h3.1, h3.2]; rfl) h
theorem zerK_len (rows : List (List UInt8)) (lost : List Int) (n : Nat) : ∀ k, (zerK rows lost n k).length ≤ k
  | 0 => by simp [zerK]
  | k + 1 => by rw [zerK]; have := zerK_len rows lost n k; split <;> simp <;> omega
theorem oneK_len (rows : List (List UInt8)) (lost : List Int) (n : Nat) : ∀ k, (oneK rows lost n k).length ≤ k
  | 0 => by simp [oneK]
  | k + 1 => by rw [oneK]; have := oneK_len rows lost n k; split <;> simp <;> omega
/-- each of these gives way at place n -/
def giveK (lost : List Int) (n : Nat) (ones : List Int) : Nat → List Int
  | 0 => lost
  | k + 1 => (giveK lost n ones k).set (ones.getD k 0).toNat n
theorem giveK_len (lost : List Int) (n : Nat) (ones : List Int) : ∀ k, (giveK lost n ones k).length = lost.length
  | 0 => rfl
  | k + 1 => by rw [giveK, List.length_set, giveK_len lost n ones k]
theorem giveK_at (lost : List Int) (n : Nat) (ones : List Int) (hp : ∀ x ∈ ones, 0 ≤ x) (i : Nat) (hi : i < lost.length) : ∀ k, k ≤ ones.length → (giveK lost n ones k).getD i 0 = if (i : Int) ∈ ones.take k then (n : Int) else lost.getD i 0
  | 0, _ => by simp [giveK]
  | k + 1, hk => by
    have hlt : k < ones.length := by omega
    have ih := giveK_at lost n ones hp i hi k (by omega)
    have e : ones.getD k 0 = ones[k] := by simp [List.getD, hlt]
    rw [giveK, List.take_succ_eq_append_getElem hlt, e]
    have h0 := hp ones[k] (List.getElem_mem hlt)
    by_cases hx : ones[k].toNat = i
    · rw [if_pos (by rw [List.mem_append, List.mem_singleton]; right; omega)]
      simp [List.getD, hx, giveK_len, hi]
    · have hne : ¬ (i : Int) = ones[k] := by omega
      have e2 : ((giveK lost n ones k).set ones[k].toNat (n : Int)).getD i 0 = (giveK lost n ones k).getD i 0 := by
        simp [List.getD, List.getElem?_set_ne hx]
      rw [e2, ih]
      by_cases hm : (i : Int) ∈ ones.take k
      · rw [if_pos hm, if_pos (List.mem_append_left _ hm)]
      · rw [if_neg hm, if_neg]
        rw [List.mem_append, List.mem_singleton]
        rintro (h | h)
        · exact hm h
        · exact hne h
/-- who gave way, so many bits having been sent -/
def lostL (rows : List (List UInt8)) (best : List UInt8) (n : Nat) : List Int := rows.map (gaveA best n)
theorem lostL_len (rows : List (List UInt8)) (best : List UInt8) (n : Nat) : (lostL rows best n).length = rows.length := by simp [lostL]
theorem lostL_at (rows : List (List UInt8)) (best : List UInt8) (n i : Nat) (hi : i < rows.length) : (lostL rows best n).getD i 0 = gaveA best n (rows.getD i []) := by
  simp [lostL, List.getD, hi]
theorem row_mem (rows : List (List UInt8)) (i : Nat) (hi : i < rows.length) : rows.getD i [] ∈ rows := by
  have : rows.getD i [] = rows[i] := by simp [List.getD, hi]
  rw [this]; exact List.getElem_mem hi
theorem row_idx {rows : List (List UInt8)} {r : List UInt8} (h : r ∈ rows) : ∃ i, i < rows.length ∧ rows.getD i [] = r := by
  obtain ⟨i, hi, rfl⟩ := List.getElem_of_mem h
  exact ⟨i, hi, by simp [List.getD, hi]⟩
theorem sends_iff (rows : List (List UInt8)) (best : List UInt8) (n i : Nat) (hi : i < rows.length) : sends rows (lostL rows best n) n i = true ↔ gaveA best n (rows.getD i []) = -1 ∧ n < (rows.getD i []).length := by
  unfold sends
  rw [lostL_at rows best n i hi]
  simp
/-- behind the last bit nobody sends -/
theorem none_left {rows : List (List UInt8)} (hA : Apart rows) {best : List UInt8} (hb : best ∈ rows) : zerK rows (lostL rows best best.length) best.length rows.length = [] ∧ oneK rows (lostL rows best best.length) best.length rows.length = [] := by
  have key : ∀ i, i < rows.length → sends rows (lostL rows best best.length) best.length i = true → False := by
    intro i hi h
    obtain ⟨h1, h2⟩ := (sends_iff rows best best.length i hi).1 h
    have e := gave_off hA (row_mem rows i hi) hb (Nat.le_refl _) h1
    rw [e] at h2; omega
  constructor
  · rw [List.eq_nil_iff_forall_not_mem]
    intro x hx
    obtain ⟨i, h1, _, h3, _⟩ := (zerK_mem rows _ _ x rows.length).1 hx
    exact key i h1 h3
  · rw [List.eq_nil_iff_forall_not_mem]
    intro x hx
    obtain ⟨i, h1, _, h3, _⟩ := (oneK_mem rows _ _ x rows.length).1 hx
    exact key i h1 h3
theorem best_sends {rows : List (List UInt8)} {best : List UInt8} (n i : Nat) (hn : n < best.length) (hi : i < rows.length) (h : rows.getD i [] = best) : sends rows (lostL rows best n) n i = true := by
  rw [sends_iff rows best n i hi, h]
  refine ⟨?_, hn⟩
  unfold gaveA
  rw [dif_self, if_neg (by omega)]
/-- where the bus bears a 1 nobody sends a 0, and nobody gives way -/
theorem one_step {rows : List (List UInt8)} (hA : Apart rows) (hrow : ∀ r ∈ rows, rowB r = true) {best : List UInt8} (hL : Least rows best) {n : Nat} (hn : n < best.length) (h1 : best.getD n 0 = 49) :
    zerK rows (lostL rows best n) n rows.length = [] ∧ oneK rows (lostL rows best n) n rows.length ≠ [] ∧ lostL rows best (n + 1) = lostL rows best n := by
  refine ⟨?_, ?_, ?_⟩
  · rw [List.eq_nil_iff_forall_not_mem]
    intro x hx
    obtain ⟨i, hi, _, h3, h4⟩ := (zerK_mem rows _ _ x rows.length).1 hx
    obtain ⟨h5, h6⟩ := (sends_iff rows best n i hi).1 h3
    have := least_one hA hrow hL (row_mem rows i hi) hn h5 h1
    unfold isZ at h4
    rw [this] at h4
    exact absurd h4 (by decide)
  · obtain ⟨i, hi, he⟩ := row_idx hL.1
    have : (i : Int) ∈ oneK rows (lostL rows best n) n rows.length := (oneK_mem rows _ _ _ rows.length).2 ⟨i, hi, rfl, best_sends n i hn hi he, by unfold isZ; rw [he, h1]; decide⟩
    intro h; rw [h] at this; cases this
  · unfold lostL
    refine List.map_congr_left fun r hr => ?_
    rw [gave_next hA hr hL.1 hn]
    by_cases h : gaveA best n r = -1
    · rw [if_neg (fun y => y.2 (by rw [least_one hA hrow hL hr hn h h1, h1]))]
    · rw [if_neg (fun y => h y.1)]
theorem zero_step {rows : List (List UInt8)} (hA : Apart rows) {best : List UInt8} (hb : best ∈ rows) {n : Nat} (hn : n < best.length) (h0 : best.getD n 0 = 48) :
    zerK rows (lostL rows best n) n rows.length ≠ [] ∧ giveK (lostL rows best n) n (oneK rows (lostL rows best n) n rows.length) (oneK rows (lostL rows best n) n rows.length).length = lostL rows best (n + 1) := by
  refine ⟨?_, ?_⟩
  · obtain ⟨i, hi, he⟩ := row_idx hb
    have : (i : Int) ∈ zerK rows (lostL rows best n) n rows.length := (zerK_mem rows _ _ _ rows.length).2 ⟨i, hi, rfl, best_sends n i hn hi he, by unfold isZ; rw [he, h0]; decide⟩
    intro h; rw [h] at this; cases this
  · have hp : ∀ x ∈ oneK rows (lostL rows best n) n rows.length, 0 ≤ x := by
      intro x hx
      obtain ⟨i, _, h2, _⟩ := (oneK_mem rows _ _ x rows.length).1 hx
      omega
    refine List.ext_getElem (by rw [giveK_len, lostL_len, lostL_len]) fun i hi1 hi2 => ?_
    have hi : i < rows.length := by rw [lostL_len] at hi2; exact hi2
    have e1 := giveK_at (lostL rows best n) n _ hp i (by rw [lostL_len]; exact hi) _ (Nat.le_refl (oneK rows (lostL rows best n) n rows.length).length)
    rw [List.take_length] at e1
    have e2 := lostL_at rows best (n + 1) i hi
    have g1 : (giveK (lostL rows best n) n (oneK rows (lostL rows best n) n rows.length) (oneK rows (lostL rows best n) n rows.length).length).getD i 0 = (giveK (lostL rows best n) n (oneK rows (lostL rows best n) n rows.length) (oneK rows (lostL rows best n) n rows.length).length)[i] := by simp [List.getD, hi1]
    have g2 : (lostL rows best (n + 1)).getD i 0 = (lostL rows best (n + 1))[i] := by simp [List.getD, hi2]
    rw [← g1, ← g2, e1, e2, gave_next hA (row_mem rows i hi) hb hn, lostL_at rows best n i hi, h0]
    have hiff : ((i : Int) ∈ oneK rows (lostL rows best n) n rows.length) ↔ (gaveA best n (rows.getD i []) = -1 ∧ (rows.getD i []).getD n 0 ≠ 48) := by
      rw [oneK_mem]
      constructor
      · rintro ⟨j, h1, h2, h3, h4⟩
        have : j = i := by omega
        subst this
        refine ⟨((sends_iff rows best n j hi).1 h3).1, ?_⟩
        unfold isZ at h4
        simpa using h4
      · rintro ⟨h1, h2⟩
        refine ⟨i, hi, rfl, (sends_iff rows best n i hi).2 ⟨h1, (gave_on hA (row_mem rows i hi) hb hn h1).1⟩, ?_⟩
        unfold isZ
        simpa using h2
    by_cases hx : gaveA best n (rows.getD i []) = -1 ∧ (rows.getD i []).getD n 0 ≠ 48
    · rw [if_pos (hiff.2 hx), if_pos hx]
    · rw [if_neg (fun h => hx (hiff.1 h)), if_neg hx]
theorem lost_start (rows : List (List UInt8)) (best : List UInt8) : lostL rows best 0 = List.replicate rows.length (-1) := by
  unfold lostL
  rw [List.eq_replicate_iff]
  refine ⟨by simp, fun x hx => ?_⟩
  obtain ⟨r, _, rfl⟩ := List.mem_map.1 hx
  exact gaveA_zero best r
theorem lost_end (rows : List (List UInt8)) (best : List UInt8) : lostL rows best best.length = rows.map fun r => dif r best := by
  unfold lostL
  exact List.map_congr_left fun r _ => gaveA_all best r _ (Nat.le_refl _)
end Bw
end Go.Proofs.YtdhmjbnpdmneiadDoor

/- Where something stands first in a list, and whether it stands there once: plain facts on lists; of no program. -/
namespace Go.Proofs.YtdhmjbnpdmneiadDoor
namespace Bw
open Bm

/-- where v stands first, or -1 -/
def idxG {α : Type} [DecidableEq α] : List α → α → Int
  | [], _ => -1
  | x :: xs, v => if x = v then 0 else if idxG xs v = -1 then -1 else idxG xs v + 1
theorem idxG_ge {α : Type} [DecidableEq α] (xs : List α) (v : α) : -1 ≤ idxG xs v ∧ idxG xs v < xs.length := by
  induction xs with
  | nil => simp [idxG]
  | cons x xs ih =>
    rw [idxG, List.length_cons]
    split
    · omega
    · split <;> omega
theorem idxG_app {α : Type} [DecidableEq α] (a b : List α) (v : α) (h : v ∉ a) : idxG (a ++ b) v = if idxG b v = -1 then -1 else idxG b v + a.length := by
  induction a with
  | nil => simp
  | cons x a ih =>
    have h1 : x ≠ v := fun e => h (by rw [e]; exact List.mem_cons_self)
    have h2 : v ∉ a := fun e => h (List.mem_cons_of_mem _ e)
    have hb := idxG_ge b v
    rw [List.cons_append, idxG, if_neg h1, ih h2, List.length_cons]
    split
    · simp
    · rw [if_neg (by omega)]; omega
theorem idxG_at {α : Type} [DecidableEq α] (a b : List α) (v : α) (h : v ∉ a) : idxG (a ++ v :: b) v = a.length := by
  rw [idxG_app a _ v h, idxG, if_pos rfl]; simp
theorem idxG_none {α : Type} [DecidableEq α] (a : List α) (v : α) (h : v ∉ a) : idxG a v = -1 := by
  have := idxG_app a [] v h
  simpa [idxG] using this
theorem firstG {α : Type} [DecidableEq α] {xs : List α} {v : α} (h : v ∈ xs) : ∃ a b, xs = a ++ v :: b ∧ v ∉ a := by
  induction xs with
  | nil => cases h
  | cons x xs ih =>
    by_cases e : x = v
    · exact ⟨[], xs, by rw [e]; rfl, by simp⟩
    · have h' : v ∈ xs := by
        rcases List.mem_cons.1 h with h | h
        · exact absurd h.symm e
        · exact h
      obtain ⟨a, b, rfl, ha⟩ := ih h'
      exact ⟨x :: a, b, rfl, by
        intro hm
        rcases List.mem_cons.1 hm with hm | hm
        · exact e hm.symm
        · exact ha hm⟩
theorem idxG_hit {α : Type} [DecidableEq α] (xs : List α) (v d : α) (j : Nat) (hj : j < xs.length) (h : v ∉ xs.take j) (he : v = xs.getD j d) : idxG xs v = j := by
  have e1 : xs = xs.take j ++ xs.drop j := (List.take_append_drop j xs).symm
  have e2 : xs.drop j = v :: xs.drop (j + 1) := by rw [List.drop_eq_getElem_cons hj, he]; simp [List.getD, hj]
  have e3 := idxG_at (xs.take j) (xs.drop (j + 1)) v h
  rw [← e2, ← e1, List.length_take] at e3
  omega
theorem idxG_next {α : Type} [DecidableEq α] (xs : List α) (v d : α) (j : Nat) (hj : j < xs.length) (h : v ∉ xs.take j) (he : v ≠ xs.getD j d) : v ∉ xs.take (j + 1) := by
  rw [List.take_succ_eq_append_getElem hj, List.mem_append, List.mem_singleton]
  rintro (h' | h')
  · exact h h'
  · exact he (by rw [h']; simp [List.getD, hj])
theorem idxG_pos {α : Type} [DecidableEq α] (xs : List α) (v : α) : 0 ≤ idxG xs v ↔ v ∈ xs := by
  by_cases h : v ∈ xs
  · obtain ⟨a, b, rfl, ha⟩ := firstG h
    rw [idxG_at a b v ha]; simp [h]
  · rw [idxG_none xs v h]; simp [h]
/-- what 'only' tells: the error, and the place -/
def onlyE {α : Type} [DecidableEq α] (l : List α) (x : α) : Int := if idxG l x < 0 then 8 else if x ∈ l.drop ((idxG l x).toNat + 1) then 9 else 0
def onlyN {α : Type} [DecidableEq α] (l : List α) (x : α) : Int := if onlyE l x = 0 then idxG l x else 0
theorem onlyE_mem {α : Type} [DecidableEq α] {l : List α} {x : α} (h : x ∈ l) : onlyE l x = if 1 < l.count x then 9 else 0 := by
  obtain ⟨a, b, rfl, ha⟩ := firstG h
  unfold onlyE
  have hc : (a ++ x :: b).count x = b.count x + 1 := by
    rw [List.count_append, List.count_cons_self, List.count_eq_zero.2 ha]; omega
  have hd : (a ++ x :: b).drop (((a.length : Nat) : Int).toNat + 1) = b := by
    rw [Int.toNat_natCast, ← List.drop_drop, List.drop_left]; rfl
  rw [idxG_at a b x ha, if_neg (by omega), hd, hc]
  by_cases hb : x ∈ b
  · rw [if_pos hb, if_pos (by have := List.count_pos_iff.2 hb; omega)]
  · rw [if_neg hb, if_neg (by rw [List.count_eq_zero.2 hb]; omega)]
/-- the rows' least, told by where all others part from it -/
theorem dif_count {rows : List (List UInt8)} (hA : Apart rows) {best : List UInt8} (hb : best ∈ rows) : ((rows.map fun r => dif r best).count (-1)) = rows.count best := by
  have key : ∀ l : List (List UInt8), (∀ r ∈ l, r ∈ rows) → (l.map fun r => dif r best).count (-1) = l.count best := by
    intro l
    induction l with
    | nil => intro _; rfl
    | cons r l ih =>
      intro h
      have hr := h r List.mem_cons_self
      have := ih (fun x hx => h x (List.mem_cons_of_mem _ hx))
      rw [List.map_cons]
      by_cases e : r = best
      · subst e
        rw [List.count_cons_self, dif_self, List.count_cons_self, this]
      · have hd : dif r best ≠ -1 := fun hx => e ((dif_neg hA hr hb).1 hx)
        rw [List.count_cons_of_ne hd, List.count_cons_of_ne e, this]
  exact key rows (fun _ h => h)
theorem dif_idx {rows : List (List UInt8)} (hA : Apart rows) {best : List UInt8} (hb : best ∈ rows) : idxG (rows.map fun r => dif r best) (-1) = idxG rows best := by
  have key : ∀ l : List (List UInt8), (∀ r ∈ l, r ∈ rows) → idxG (l.map fun r => dif r best) (-1) = idxG l best := by
    intro l
    induction l with
    | nil => intro _; rfl
    | cons r l ih =>
      intro h
      have hr := h r List.mem_cons_self
      have := ih (fun x hx => h x (List.mem_cons_of_mem _ hx))
      rw [List.map_cons, idxG, idxG, this]
      by_cases e : r = best
      · subst e
        rw [dif_self, if_pos rfl, if_pos rfl]
      · have hd : dif r best ≠ -1 := fun hx => e ((dif_neg hA hr hb).1 hx)
        rw [if_neg hd, if_neg e]
  exact key rows (fun _ h => h)
theorem dif_mem {rows : List (List UInt8)} {best : List UInt8} (hb : best ∈ rows) : (-1 : Int) ∈ rows.map fun r => dif r best := List.mem_map.2 ⟨best, hb, dif_self best⟩
end Bw
end Go.Proofs.YtdhmjbnpdmneiadDoor

/- How often a row stands in a list; plain facts on lists; of no program. -/
namespace Go.Proofs.YtdhmjbnpdmneiadDoor
namespace Bw
open Bm
theorem beq_rows : (instBEqOfDecidableEq : BEq (List UInt8)) = List.instBEq := by
  have h : ∀ a b : List UInt8, @BEq.beq _ instBEqOfDecidableEq a b = @BEq.beq _ List.instBEq a b := fun a b =>
    Bool.eq_iff_iff.2 ((@beq_iff_eq _ instBEqOfDecidableEq _ a b).trans (@beq_iff_eq _ List.instBEq _ a b).symm)
  exact congrArg BEq.mk (funext fun a => funext fun b => h a b)
theorem onlyE_rows {l : List (List UInt8)} {x : List UInt8} (h : x ∈ l) : onlyE l x = if 1 < l.count x then 9 else 0 := by
  rw [onlyE_mem h, beq_rows]
end Bw
end Go.Proofs.YtdhmjbnpdmneiadDoor

/- The least of several texts: plain facts on lists; of no program. -/
namespace Go.Proofs.YtdhmjbnpdmneiadDoor
namespace Bw
open Bm
theorem less_irr : ∀ a : List UInt8, Op.bytesLess a a = false
  | [] => rfl
  | x :: a => by simp [Op.bytesLess, less_irr a]
theorem less_tot : ∀ a b : List UInt8, Op.bytesLess a b = false → Op.bytesLess b a = false → a = b
  | [], [], _, _ => rfl
  | [], y :: b, h, _ => by simp [Op.bytesLess] at h
  | x :: a, [], _, h => by simp [Op.bytesLess] at h
  | x :: a, y :: b, h1, h2 => by
    by_cases h : x = y
    · subst h
      simp [Op.bytesLess] at h1 h2
      rw [less_tot a b h1 h2]
    · have h' : ¬ y = x := fun e => h e.symm
      simp [Op.bytesLess, h] at h1
      simp [Op.bytesLess, h'] at h2
      exact absurd (UInt8.le_antisymm h2 h1) h
theorem less_tr : ∀ a b c : List UInt8, Op.bytesLess a b = true → Op.bytesLess b c = true → Op.bytesLess a c = true
  | _, [], [], h, _ => by
    rename_i a; cases a <;> simp [Op.bytesLess] at h
  | [], _, z :: c, _, _ => by simp [Op.bytesLess]
  | a, y :: b, [], _, h => by simp [Op.bytesLess] at h
  | x :: a, [], _, h, _ => by simp [Op.bytesLess] at h
  | x :: a, y :: b, z :: c, h1, h2 => by
    by_cases h : x = y
    · subst h
      by_cases h' : x = z
      · subst h'
        simp [Op.bytesLess] at h1 h2 ⊢
        exact less_tr a b c h1 h2
      · simp [Op.bytesLess, h'] at h2 ⊢
        exact h2
    · simp [Op.bytesLess, h] at h1
      by_cases h' : y = z
      · subst h'
        simp [Op.bytesLess, h]
        exact h1
      · simp [Op.bytesLess, h'] at h2
        have h3 := UInt8.lt_trans h1 h2
        have h4 : ¬ x = z := fun e => by rw [e] at h3; exact absurd h3 (UInt8.lt_irrefl _)
        simp [Op.bytesLess, h4]
        exact h3
theorem less_ne {a b : List UInt8} (h : Op.bytesLess a b = true) : a ≠ b := fun e => by rw [e, less_irr] at h; cases h
theorem less_not {a b : List UInt8} (h : Op.bytesLess a b = true) : Op.bytesLess b a = false := by
  rcases Bool.eq_false_or_eq_true (Op.bytesLess b a) with h' | h'
  · have := less_tr a b a h h'
    rw [less_irr] at this; cases this
  · exact h'
/-- the lesser of two texts, the first one if they are alike -/
def minB (m x : List UInt8) : List UInt8 := if Op.bytesLess x m = true then x else m
def minJ (l : List (List UInt8)) : Nat → List UInt8
  | 0 => l.getD 0 []
  | i + 1 => minB (minJ l i) (l.getD (i + 1) [])
theorem minB_or (m x : List UInt8) : minB m x = x ∨ minB m x = m := by unfold minB; split; exact .inl rfl; exact .inr rfl
theorem minB_le (m x : List UInt8) : Op.bytesLess x (minB m x) = false ∧ Op.bytesLess m (minB m x) = false := by
  unfold minB
  split
  · rename_i h
    refine ⟨less_irr x, ?_⟩
    rcases Bool.eq_false_or_eq_true (Op.bytesLess m x) with h' | h'
    · have := less_tr x m x h h'
      rw [less_irr] at this; cases this
    · exact h'
  · rename_i h
    exact ⟨by simpa using h, less_irr m⟩
theorem less_le {a b c : List UInt8} (h1 : Op.bytesLess a b = false) (h2 : Op.bytesLess b c = false) : Op.bytesLess a c = false := by
  rcases Bool.eq_false_or_eq_true (Op.bytesLess a c) with h | h
  · rcases Bool.eq_false_or_eq_true (Op.bytesLess b a) with h3 | h3
    · have := less_tr b a c h3 h
      rw [h2] at this; cases this
    · have e := less_tot a b h1 h3
      rw [e, h2] at h; cases h
  · exact h
theorem minJ_least (l : List (List UInt8)) : ∀ i, i < l.length → minJ l i ∈ l.take (i + 1) ∧ ∀ k, k ≤ i → Op.bytesLess (l.getD k []) (minJ l i) = false
  | 0, h => by
    refine ⟨?_, fun k hk => ?_⟩
    · show l.getD 0 [] ∈ _
      have : l.getD 0 [] = l[0] := by simp [List.getD, h]
      rw [this]
      exact List.mem_take_iff_getElem.2 ⟨0, by omega, rfl⟩
    · have : k = 0 := by omega
      subst this; exact less_irr _
  | i + 1, h => by
    obtain ⟨h1, h2⟩ := minJ_least l i (by omega)
    obtain ⟨m1, m2⟩ := minB_le (minJ l i) (l.getD (i + 1) [])
    refine ⟨?_, fun k hk => ?_⟩
    · rcases minB_or (minJ l i) (l.getD (i + 1) []) with e | e
      · rw [minJ, e]
        have : l.getD (i + 1) [] = l[i + 1] := by simp [List.getD, h]
        rw [this]
        exact List.mem_take_iff_getElem.2 ⟨i + 1, by omega, rfl⟩
      · rw [minJ, e]
        obtain ⟨j, hj, hx⟩ := List.mem_take_iff_getElem.1 h1
        exact List.mem_take_iff_getElem.2 ⟨j, by omega, hx⟩
    · rcases Nat.lt_or_ge i k with hx | hx
      · have : k = i + 1 := by omega
        subst this; exact m1
      · exact less_le (h2 k hx) m2
def minL (l : List (List UInt8)) : List UInt8 := minJ l (l.length - 1)
theorem minL_least (l : List (List UInt8)) (h : l ≠ []) : Least l (minL l) := by
  have hl : 0 < l.length := List.length_pos_iff.2 h
  obtain ⟨h1, h2⟩ := minJ_least l (l.length - 1) (by omega)
  refine ⟨List.mem_of_mem_take h1, fun r hr => ?_⟩
  obtain ⟨k, hk, rfl⟩ := List.getElem_of_mem hr
  have := h2 k (by omega)
  rw [show l.getD k [] = l[k] by simp [List.getD, hk]] at this
  exact this
/-- the least is one alone -/
theorem least_one_only {l : List (List UInt8)} {a b : List UInt8} (ha : Least l a) (hb : Least l b) : a = b := less_tot a b (hb.2 a ha.1) (ha.2 b hb.1)
end Bw
end Go.Proofs.YtdhmjbnpdmneiadDoor

/- Plain tools for walks; of no type of the program. -/
namespace Go.Proofs.YtdhmjbnpdmneiadDoor
open Go.ChangeShapes Go.WideShapes Go.ChangeAt Go.RowKit
namespace Bw

theorem Hid.mk {p : Prop} (h : p) : Hid p := h

theorem int_eq {k : IntKind} {a b : Int} (h : a = b) : Value.int k a = Value.int k b := by rw [h]

theorem cell_kept {w w' : World} (hb : Below w.heap.size w w') {a : Addr} {v : Value} (hc : w.cell? a = some v) : w'.cell? a = some v := by
  have hlt : a.block < w.heap.size := by
    rcases Nat.lt_or_ge a.block w.heap.size with h | h
    · exact h
    · unfold World.cell? at hc
      rw [Array.getElem?_eq_none h] at hc
      simp at hc
  rw [hb.cell hlt]; exact hc

theorem ownsRow_below {w w' : World} {base : Nat} {e : TypeId} {size : Nat} {v : Value} {n : Nat} {xs : List Value} (h : w.ownsRow base e size v n xs) (hb : Below w.heap.size w w') :
    w'.ownsRow base e size v n xs := by
  obtain ⟨h1, h2⟩ := h
  refine ⟨h1, ?_⟩
  rcases h2 with h2 | ⟨g, cap, cur, hv, hg, hh, hc, hm, hsz, htk⟩
  · exact Or.inl h2
  · have hlt : g < w.heap.size := by
      rcases Nat.lt_or_ge g w.heap.size with h | h
      · exact h
      · rw [Array.getElem?_eq_none h] at hh; cases hh
    exact Or.inr ⟨g, cap, cur, hv, hg, by rw [hb.block g hlt]; exact hh, hc, hm, hsz, htk⟩

theorem bl2 {w a b : World} (h1 : Below w.heap.size w a) (h2 : Below a.heap.size a b) : Below w.heap.size w b := h1.trans (h2.mono h1.size)

theorem ret_bool {b : Bool} (h : b = true) : Ending.returned (.bool b) = .returned (.bool true) := by rw [h]

theorem max_int (a b : Nat) (x : Int) (h : x = (b : Int)) : (if (a : Int) < x then x else (a : Int)) = ((max a b : Nat) : Int) := by
  subst h
  split <;> omega

end Bw
end Go.Proofs.YtdhmjbnpdmneiadDoor

/- Facts on rows of bytes that a call owns or was handed, and on texts; none walks a function. -/
namespace Go.Proofs.YtdhmjbnpdmneiadDoor
open Go.ChangeShapes Go.WideShapes Go.ChangeAt Go.RowKit
namespace Bw
open Bm
theorem info_u8 : (Tryd.prog.info? 5).map (fun i => (i.zero, i.size, i.bytes)) = some (some (.int .u8 0), 1, 1) := by kernel_rfl

/-- the bits of n, from the place size - 1 - k on down to size - 1 - (k + m - 1), as bytes 48 and 49 -/
def bitAt (n : Nat) (j : Nat) : UInt8 := if n / 2 ^ j % 2 = 1 then 49 else 48

def bitsHead (n size k : Nat) : List UInt8 := (List.range k).map fun i => bitAt n (size - 1 - i)

def cellsOf (l : List UInt8) : List Value := l.map fun c => Value.int .u8 c.toNat

theorem bitsHead_succ (n size k : Nat) : bitsHead n size (k + 1) = bitsHead n size k ++ [bitAt n (size - 1 - k)] := by
  simp [bitsHead, List.range_succ]

theorem cellsOf_append (a b : List UInt8) : cellsOf (a ++ b) = cellsOf a ++ cellsOf b := by simp [cellsOf]

theorem cellsOf_length (a : List UInt8) : (cellsOf a).length = a.length := by simp [cellsOf]

theorem bitsHead_length (n size k : Nat) : (bitsHead n size k).length = k := by simp [bitsHead]

theorem and_one (x : Int) (h0 : 0 ≤ x) (h1 : x < 2 ^ 63) : bits .and .i64 x 1 = x % 2 := by
  have := bits_mask .i64 63 (by decide) (fun n h0 h1 => by rw [IntKind.wrap_i64]; omega) 1 (by decide) x h0 h1
  simpa using this

theorem bit_cell (n q : Nat) (hn : n < 2 ^ 63) : Value.int .u8 ((48 + bits .and .i64 ((n : Int) / 2 ^ q) 1) % 256) = Value.int .u8 (bitAt n q).toNat := by
  have e : (n : Int) / 2 ^ q = ((n / 2 ^ q : Nat) : Int) := by simp
  have hle : n / 2 ^ q ≤ n := Nat.div_le_self _ _
  rw [e]
  unfold bitAt
  generalize n / 2 ^ q = m at hle
  rw [and_one _ (by omega) (by omega)]
  by_cases h : m % 2 = 1
  · rw [if_pos h]; congr 1; simp; omega
  · rw [if_neg h]; congr 1; simp; omega

theorem convert_own {w : World} {base : Nat} {v : Value} {n : Nat} {l : List UInt8} (h : w.ownsRow base 5 1 v n (cellsOf l)) :
    (convert 28 9 v).run Tryd.prog w = .ok (.string ⟨l.toArray⟩) w := by
  obtain ⟨hl, h'⟩ := h
  have hn : l.length = n := by simpa [cellsOf] using hl
  rcases h' with ⟨rfl, h0⟩ | ⟨g, cap, cur, rfl, hg, hh, hc, hm, hsz, htk⟩
  · have : l = [] := List.eq_nil_of_length_eq_zero (by omega)
    subst this
    exact run_convert_bytes_nil w 28 5 Tryd.underlying28 Tryd.underlying5 0 0 9 Tryd.underlying9
  · have ho : w.ownsRow base 5 1 (.slice (some ⟨g, 0, none⟩) n cap) n (cellsOf l) := ⟨hl, Or.inr ⟨g, cap, cur, rfl, hg, hh, hc, hm, hsz, htk⟩⟩
    have := run_convert_bytes_back w 28 9 5 ⟨g, 0, none⟩ cap l Tryd.underlying28 Tryd.underlying5 Tryd.underlying9 (fun j hj => ho.cells rfl j _ (by simp [cellsOf, hj]))
    rw [hn] at this
    exact this

/-- What is told of a slice of bytes that came in: its elements, and where they lie. -/
def IsBytes (w : World) (a : Option Addr) (len cap : Nat) (l : List UInt8) : Prop :=
  l.length = len ∧ len ≤ cap ∧ cap ≤ maxLen ∧ (a = none → len = 0) ∧ ∀ x, a = some x → ∀ i, i < len → w.cell? (x.add i) = some (.int .u8 (l.getD i 0).toNat)

def ofL (l : List UInt8) : List UInt8 := l.flatMap fun c => bitsHead c.toNat 8 8

theorem ofL_snoc (l : List UInt8) (c : UInt8) : ofL (l ++ [c]) = ofL l ++ bitsHead c.toNat 8 8 := by simp [ofL]

theorem ofL_length (l : List UInt8) : (ofL l).length = 8 * l.length := by
  induction l with
  | nil => rfl
  | cons c l ih =>
    have : ofL (c :: l) = bitsHead c.toNat 8 8 ++ ofL l := rfl
    rw [this, List.length_append, bitsHead_length, ih, List.length_cons]; omega

theorem take_snocL (l : List UInt8) (k : Nat) (h : k < l.length) : l.take (k + 1) = l.take k ++ [l.getD k 0] := by
  rw [List.take_succ_eq_append_getElem h]; simp [List.getD, h]

theorem extract_list (s : ByteArray) (i n : Nat) : (s.extract i (i + n)).data.toList = (s.data.toList.drop i).take n := by
  rw [ByteArray.data_extract, Array.toList_extract, List.extract_eq_take_drop]
  congr 1; omega

theorem rowB_drop {l : List UInt8} (h : rowB l = true) (k : Nat) : rowB (l.drop k) = true := by
  have e : rowB (l.take k ++ l.drop k) = true := by rw [List.take_append_drop]; exact h
  rw [rowB_append] at e; simp at e; exact e.2

theorem small_of_check {s : ByteArray} (h : checkE s.data.toList = 0) : s.size ≤ 1000 ∧ rowB s.data.toList = true := by
  unfold checkE at h
  have e : s.data.toList.length = s.size := by simp
  by_cases h1 : 1000 < s.data.toList.length
  · rw [if_pos h1] at h; omega
  · rw [if_neg h1] at h
    cases e : rowB s.data.toList with
    | true => exact ⟨by omega, rfl⟩
    | false => rw [e] at h; simp at h

theorem checkE_row {l : List UInt8} (h : rowB l = true) (hl : l.length ≤ 1000) : checkE l = 0 := by
  unfold checkE; rw [if_neg (by omega), if_pos h]

theorem rowB_at' {s : ByteArray} (h : rowB s.data.toList = true) (k : Nat) (hk : k < s.size) : (s[k].toNat : Int) = 48 ∨ (s[k].toNat : Int) = 49 := (bit_iff _).1 (rowB_at h k hk)

theorem mk_list (l : List UInt8) : (ByteArray.mk l.toArray).data.toList = l := by simp

theorem mk_size (l : List UInt8) : (ByteArray.mk l.toArray).size = l.length := by show l.toArray.size = _; simp

theorem ba_eq {a : ByteArray} {l : List UInt8} (h : a.data.toList = l) : a = ⟨l.toArray⟩ := by
  cases a with
  | mk d => simp only at h; rw [← h]

theorem ba_size {a : ByteArray} {l : List UInt8} (h : a.data.toList = l) : a.size = l.length := by rw [← h]; simp

theorem ba_cat (a b : ByteArray) : (a ++ b).data.toList = a.data.toList ++ b.data.toList := by simp [ByteArray.data_append]

theorem ret_str2 {a : ByteArray} {l : List UInt8} {x : Value} (h : a.data.toList = l) : Ending.returned (.tuple #[.string a, x]) = .returned (.tuple #[.string ⟨l.toArray⟩, x]) := by rw [ba_eq h]

theorem ret_str1 {a : ByteArray} {l : List UInt8} (h : a.data.toList = l) : Ending.returned (.string a) = .returned (.string ⟨l.toArray⟩) := by rw [ba_eq h]

theorem isBytes_below {w w' : World} {a : Option Addr} {len cap : Nat} {l : List UInt8} (h : IsBytes w a len cap l) (hb : Below w.heap.size w w') : IsBytes w' a len cap l :=
  ⟨h.1, h.2.1, h.2.2.1, h.2.2.2.1, fun x hx i hi => cell_kept hb (h.2.2.2.2 x hx i hi)⟩

theorem at_getD (s : ByteArray) (k : Nat) (h : k < s.size) : s[k] = s.data.toList.getD k 0 := by
  show s.data[k] = _
  have h' : k < s.data.size := h
  simp only [List.getD, Array.getElem?_toList, Array.getElem?_eq_getElem h', Option.getD_some]

end Bw
end Go.Proofs.YtdhmjbnpdmneiadDoor

/- Which frames are right: the errors, as data; of no program. -/
namespace Go.Proofs.YtdhmjbnpdmneiadDoor
namespace Cm
theorem top_true : True := trivial
end Cm
namespace Bw
open Bm Cm
def sizesL : List Nat := [0, 1, 2, 3, 4, 5, 6, 7, 8, 12, 16, 20, 24, 32, 48, 64]
def topI (lo : Bool) : Int := if lo then 536870911 else 2047
def frEn (id : Int) (lo fa re : Bool) (sz : Int) (n : Nat) : Int :=
  if id < 0 ∨ topI lo < id then 3
  else if re = true ∧ (fa = true ∨ n ≠ 0) then 4
  else if sz < 0 ∨ 8 < sz ∨ (0 < sz ∧ re = false) then 3
  else if 64 < n ∨ (8 < n ∧ fa = false) then 2
  else if n ∈ sizesL then 0 else 4
end Bw
end Go.Proofs.YtdhmjbnpdmneiadDoor

/- Plain facts on rows of bits: a number's row tells the number. -/
namespace Go.Proofs.YtdhmjbnpdmneiadDoor
namespace Bw
open Bm

theorem bitAt_bit (n j : Nat) : bit (bitAt n j) = true := by unfold bitAt; split <;> rfl

theorem bitAt_dig (n j : Nat) : dig (bitAt n j) = n / 2 ^ j % 2 := by
  unfold bitAt
  have := Nat.mod_lt (n / 2 ^ j) (show 0 < 2 by omega)
  split
  · rename_i h; rw [h]; rfl
  · have : n / 2 ^ j % 2 = 0 := by omega
    rw [this]; rfl

theorem bitsHead_row (n size k : Nat) : rowB (bitsHead n size k) = true := by
  unfold rowB bitsHead
  rw [List.all_map, List.all_eq_true]
  intro i _
  exact bitAt_bit n _

theorem val_bitsHead (n size : Nat) : ∀ k, k ≤ size → n < 2 ^ size → val (bitsHead n size k) = n / 2 ^ (size - k)
  | 0, _, h => by simp [bitsHead, val, Nat.div_eq_of_lt h]
  | k + 1, hk, h => by
    rw [bitsHead_succ, val_snoc, val_bitsHead n size k (by omega) h, bitAt_dig]
    have e : size - k = (size - 1 - k) + 1 := by omega
    have e2 : size - (k + 1) = size - 1 - k := by omega
    rw [e, e2, Nat.pow_succ, ← Nat.div_div_eq_div_mul]
    omega

theorem val_row (n size : Nat) (h : n < 2 ^ size) : val (bitsHead n size size) = n := by
  rw [val_bitsHead n size size (Nat.le_refl _) h]; simp

theorem ofL_cons (c : UInt8) (l : List UInt8) : ofL (c :: l) = bitsHead c.toNat 8 8 ++ ofL l := rfl

theorem ofL_row (l : List UInt8) : rowB (ofL l) = true := by
  induction l with
  | nil => rfl
  | cons c l ih => rw [ofL_cons, rowB_append, bitsHead_row, ih]; rfl

theorem ofL_drop (l : List UInt8) : ∀ i, (ofL l).drop (8 * i) = ofL (l.drop i) := by
  induction l with
  | nil => intro i; simp [ofL]
  | cons c l ih =>
    intro i
    cases i with
    | zero => rfl
    | succ i =>
      rw [ofL_cons, List.drop_succ_cons, ← ih i]
      have e : 8 * (i + 1) = (bitsHead c.toNat 8 8).length + 8 * i := by rw [bitsHead_length]; omega
      rw [e, List.drop_length_add_append]
end Bw
end Go.Proofs.YtdhmjbnpdmneiadDoor

/- Plain facts on rows: a row is told by its number and its length. -/
namespace Go.Proofs.YtdhmjbnpdmneiadDoor
namespace Bw
open Bm
theorem list_snoc_ind {p : List UInt8 → Prop} (h0 : p []) (h1 : ∀ l c, p l → p (l ++ [c])) : ∀ l, p l := by
  intro l
  have : ∀ r : List UInt8, p r.reverse := by
    intro r
    induction r with
    | nil => exact h0
    | cons c r ih => rw [List.reverse_cons]; exact h1 _ _ ih
  have := this l.reverse
  rwa [List.reverse_reverse] at this
theorem bitAt_up (v d q : Nat) (hd : d ≤ 1) : bitAt (2 * v + d) (q + 1) = bitAt v q := by
  unfold bitAt
  have e : (2 * v + d) / 2 ^ (q + 1) = v / 2 ^ q := by
    rw [Nat.pow_succ, Nat.mul_comm (2 ^ q) 2, ← Nat.div_div_eq_div_mul]
    congr 1; omega
  rw [e]
theorem bits_val (t : List UInt8) : rowB t = true → bitsHead (val t) t.length t.length = t := by
  refine list_snoc_ind (p := fun t => rowB t = true → bitsHead (val t) t.length t.length = t) (fun _ => rfl) ?_ t
  intro t c ih h
  rw [rowB_snoc] at h
  simp only [Bool.and_eq_true] at h
  have hd := (bit_dig h.2).1
  rw [val_snoc, List.length_append, List.length_singleton, bitsHead_succ]
  have e1 : bitsHead (2 * val t + dig c) (t.length + 1) t.length = bitsHead (val t) t.length t.length := by
    unfold bitsHead
    apply List.map_congr_left
    intro i hi
    have hi' : i < t.length := by simpa using hi
    have : t.length + 1 - 1 - i = (t.length - 1 - i) + 1 := by omega
    rw [this, bitAt_up _ _ _ hd]
  have e2 : bitAt (2 * val t + dig c) (t.length + 1 - 1 - t.length) = c := by
    have : t.length + 1 - 1 - t.length = 0 := by omega
    rw [this]
    unfold bitAt
    rcases (bit_iff c).1 h.2 with hc | hc
    · have : c = 48 := UInt8.toNat_inj.1 (by show c.toNat = 48; omega)
      subst this
      have : dig 48 = 0 := rfl
      rw [this, if_neg (by simp)]
    · have : c = 49 := UInt8.toNat_inj.1 (by show c.toNat = 49; omega)
      subst this
      have : dig 49 = 1 := rfl
      rw [this, if_pos (by simp)]
  rw [e1, e2, ih h.1]
/-- a row of s bits is the row of v if it tells v -/
theorem row_is (t : List UInt8) (v s : Nat) (h : rowB t = true) (hl : t.length = s) (hv : v < 2 ^ s) : t = bitsHead v s s ↔ val t = v := by
  constructor
  · intro e; rw [e, val_row v s hv]
  · intro e; rw [← e, ← hl, bits_val t h]
end Bw
end Go.Proofs.YtdhmjbnpdmneiadDoor

/- Plain facts on numbers as polynomials over two elements: multiples of one, and the register that takes bit by bit; of no program. -/
namespace Go.Proofs.YtdhmjbnpdmneiadDoor.Cm

/-- the product without carries -/
def clm (d : Nat) : Nat → Nat
  | 0 => 0
  | q + 1 => (if (q + 1) % 2 = 1 then d else 0) ^^^ (2 * clm d ((q + 1) / 2))

theorem clm_zero (d : Nat) : clm d 0 = 0 := by rw [clm]
theorem clm_eq (d q : Nat) : clm d q = (if q % 2 = 1 then d else 0) ^^^ (2 * clm d (q / 2)) := by
  cases q with
  | zero => simp [clm_zero]
  | succ q => rw [clm]

theorem two_xor (a b : Nat) : 2 * (a ^^^ b) = (2 * a) ^^^ (2 * b) := by
  apply Nat.eq_of_testBit_eq
  intro i
  cases i with
  | zero => simp
  | succ i => simp [Nat.testBit_succ, Nat.xor_div_two]
theorem xor_half (a b : Nat) : (a ^^^ b) / 2 = a / 2 ^^^ b / 2 := Nat.xor_div_two
theorem xor_odd (a b : Nat) : (a ^^^ b) % 2 = 1 ↔ (a % 2 = 1 ∧ b % 2 = 0) ∨ (a % 2 = 0 ∧ b % 2 = 1) := by
  have h := Nat.testBit_xor a b 0
  rw [Nat.testBit_zero, Nat.testBit_zero, Nat.testBit_zero] at h
  by_cases hp : (a ^^^ b) % 2 = 1 <;> by_cases hq : a % 2 = 1 <;> by_cases hr : b % 2 = 1
  all_goals first
    | (rw [decide_eq_true hp, decide_eq_true hq, decide_eq_true hr] at h; cases h)
    | (rw [decide_eq_true hp, decide_eq_false hq, decide_eq_false hr] at h; cases h)
    | (rw [decide_eq_false hp, decide_eq_true hq, decide_eq_false hr] at h; cases h)
    | (rw [decide_eq_false hp, decide_eq_false hq, decide_eq_true hr] at h; cases h)
    | omega
theorem xor_lc (x y z : Nat) : x ^^^ (y ^^^ z) = y ^^^ (x ^^^ z) := by rw [← Nat.xor_assoc, Nat.xor_comm x y, Nat.xor_assoc]
theorem xor_eq_of {a b : Nat} (h : a ^^^ b = 0) : a = b := by
  have := congrArg (· ^^^ b) h
  simp only [Nat.xor_assoc, Nat.xor_self, Nat.xor_zero, Nat.zero_xor] at this
  exact this

theorem clm_xor (d : Nat) (a : Nat) : ∀ b, clm d (a ^^^ b) = clm d a ^^^ clm d b := by
  induction a using Nat.strongRecOn with
  | ind a ih =>
    intro b
    by_cases h0 : a = 0
    · subst h0; simp [clm_zero]
    · rw [clm_eq d (a ^^^ b), clm_eq d a, clm_eq d b, xor_half, ih (a / 2) (by omega), two_xor]
      have h := xor_odd a b
      have ha : a % 2 = 0 ∨ a % 2 = 1 := by omega
      have hb : b % 2 = 0 ∨ b % 2 = 1 := by omega
      rcases ha with ha | ha <;> rcases hb with hb | hb
      · have : ¬ (a ^^^ b) % 2 = 1 := by rw [h]; omega
        rw [if_neg this, if_neg (by omega), if_neg (by omega)]
        simp
      · have : (a ^^^ b) % 2 = 1 := by rw [h]; omega
        rw [if_pos this, if_neg (by omega), if_pos hb]
        simp only [Nat.zero_xor]
        exact xor_lc _ _ _
      · have : (a ^^^ b) % 2 = 1 := by rw [h]; omega
        rw [if_pos this, if_pos ha, if_neg (by omega)]
        simp [Nat.xor_assoc]
      · have : ¬ (a ^^^ b) % 2 = 1 := by rw [h]; omega
        rw [if_neg this, if_pos ha, if_pos hb]
        simp only [Nat.zero_xor]
        rw [show ∀ x y z : Nat, x ^^^ y ^^^ (x ^^^ z) = y ^^^ z by
          intro x y z
          rw [Nat.xor_comm x y, Nat.xor_assoc, ← Nat.xor_assoc x x, Nat.xor_self, Nat.zero_xor]]
theorem clm_two (d q : Nat) : clm d (2 * q) = 2 * clm d q := by
  rw [clm_eq, if_neg (by omega), Nat.zero_xor, Nat.mul_div_cancel_left _ (by omega)]
theorem clm_one (d : Nat) : clm d 1 = d := by rw [clm_eq]; simp [clm_zero]
theorem clm_pow (d k : Nat) : clm d (2 ^ k) = d * 2 ^ k := by
  induction k with
  | zero => rw [Nat.pow_zero, clm_one, Nat.mul_one]
  | succ k ih => rw [Nat.pow_succ, Nat.mul_comm (2 ^ k) 2, clm_two, ih, Nat.mul_left_comm]

/-- n is a multiple of d -/
def Mul (d n : Nat) : Prop := ∃ q, clm d q = n
theorem Mul.zero (d : Nat) : Mul d 0 := ⟨0, clm_zero d⟩
theorem Mul.self (d : Nat) : Mul d d := ⟨1, clm_one d⟩
theorem Mul.shift (d k : Nat) : Mul d (d * 2 ^ k) := ⟨2 ^ k, clm_pow d k⟩
theorem Mul.xor {d a b : Nat} (ha : Mul d a) (hb : Mul d b) : Mul d (a ^^^ b) := by
  obtain ⟨p, rfl⟩ := ha
  obtain ⟨q, rfl⟩ := hb
  exact ⟨p ^^^ q, clm_xor d p q⟩
theorem Mul.two {d a : Nat} (ha : Mul d a) : Mul d (2 * a) := by
  obtain ⟨p, rfl⟩ := ha
  exact ⟨2 * p, clm_two d p⟩
theorem Mul.half {d a : Nat} (hd : d % 2 = 1) (ha : Mul d (2 * a)) : Mul d a := by
  obtain ⟨q, hq⟩ := ha
  have hev : q % 2 = 0 := by
    by_cases h : q % 2 = 1
    · exfalso
      rw [clm_eq, if_pos h] at hq
      have := (xor_odd d (2 * clm d (q / 2))).2 (.inl ⟨hd, by omega⟩)
      rw [hq] at this
      omega
    · omega
  refine ⟨q / 2, ?_⟩
  have e : q = 2 * (q / 2) := by omega
  rw [e, clm_two] at hq
  omega
theorem Mul.unshift {d a : Nat} (hd : d % 2 = 1) (k : Nat) (ha : Mul d (a * 2 ^ k)) : Mul d a := by
  induction k with
  | zero => simpa using ha
  | succ k ih =>
    apply ih
    apply Mul.half hd
    rw [Nat.pow_succ, ← Nat.mul_assoc, Nat.mul_comm] at ha
    exact ha

theorem lt_xor {a b k : Nat} (ha : a < 2 ^ k) (hb : b < 2 ^ k) : a ^^^ b < 2 ^ k := Nat.xor_lt_two_pow ha hb
/-- the highest bit of a product is the sum of the highest bits -/
theorem clm_top (d s : Nat) (h1 : 2 ^ s ≤ d) (h2 : d < 2 ^ (s + 1)) (q : Nat) : ∀ t, 2 ^ t ≤ q → q < 2 ^ (t + 1) → 2 ^ (s + t) ≤ clm d q ∧ clm d q < 2 ^ (s + t + 1) := by
  induction q using Nat.strongRecOn with
  | ind q ih =>
    intro t ht1 ht2
    cases t with
    | zero =>
      have : q = 1 := by simp at ht1 ht2; omega
      subst this
      rw [clm_one]
      exact ⟨h1, h2⟩
    | succ t =>
      have hp : 2 ^ (t + 1) = 2 * 2 ^ t := by rw [Nat.pow_succ]; omega
      have hp2 : 2 ^ (t + 1 + 1) = 2 * 2 ^ (t + 1) := by rw [Nat.pow_succ]; omega
      have hq := Nat.two_pow_pos t
      obtain ⟨i1, i2⟩ := ih (q / 2) (by omega) t (by omega) (by omega)
      rw [clm_eq]
      have e1 : 2 ^ (s + (t + 1)) = 2 * 2 ^ (s + t) := by rw [← Nat.add_assoc, Nat.pow_succ]; omega
      have e2 : 2 ^ (s + (t + 1) + 1) = 2 * (2 * 2 ^ (s + t)) := by rw [Nat.pow_succ, e1]; omega
      have e3 : 2 ^ (s + t + 1) = 2 * 2 ^ (s + t) := by rw [Nat.pow_succ]; omega
      have hlow : (if q % 2 = 1 then d else 0) < 2 ^ (s + (t + 1)) := by
        have : 2 ^ (s + 1) ≤ 2 ^ (s + (t + 1)) := Nat.pow_le_pow_right (by omega) (by omega)
        have := Nat.two_pow_pos (s + (t + 1))
        split <;> omega
      generalize (if q % 2 = 1 then d else 0) = x at hlow
      have hhi : 2 * clm d (q / 2) = 2 ^ (s + (t + 1)) + (2 * clm d (q / 2) - 2 ^ (s + (t + 1))) := by omega
      have hb1 : (2 * clm d (q / 2)).testBit (s + (t + 1)) = true := by
        apply Nat.testBit_of_two_pow_le_and_two_pow_add_one_gt
        · omega
        · omega
      have hb0 : x.testBit (s + (t + 1)) = false := Nat.testBit_lt_two_pow hlow
      refine ⟨Nat.ge_two_pow_of_testBit (by rw [Nat.testBit_xor, hb0, hb1]; rfl), ?_⟩
      exact lt_xor (by omega) (by omega)
theorem Mul.small {d s n : Nat} (h1 : 2 ^ s ≤ d) (h2 : d < 2 ^ (s + 1)) (hn : n < 2 ^ s) (h : Mul d n) : n = 0 := by
  obtain ⟨q, rfl⟩ := h
  by_cases h0 : q = 0
  · subst h0; exact clm_zero d
  · exfalso
    have h3 := (clm_top d s h1 h2 q (Nat.log2 q) (Nat.log2_self_le h0) Nat.lt_log2_self).1
    have : 2 ^ s ≤ 2 ^ (s + Nat.log2 q) := Nat.pow_le_pow_right (by omega) (by omega)
    omega
theorem Mul.uniq {d s a b : Nat} (h1 : 2 ^ s ≤ d) (h2 : d < 2 ^ (s + 1)) (ha : a < 2 ^ s) (hb : b < 2 ^ s) (h : Mul d (a ^^^ b)) : a = b := by
  have := Mul.small h1 h2 (lt_xor ha hb) h
  exact xor_eq_of this
end Go.Proofs.YtdhmjbnpdmneiadDoor.Cm
