/- Several rows at a time on one bus: plain facts on lists; of no program. -/
import Derived.Test.YtlnkhlifkooohaaGreatDoorBitsMath
namespace Go.Proofs.YtlnkhlifkooohaaGreatDoor
namespace Bw
open Bm

/-- the first place at which two rows differ, -1 if none within both -/
def difA : List UInt8 → List UInt8 → Nat → Int
  | x :: a, y :: b, i => if x = y then difA a b (i + 1) else i
  | [], _, _ => -1
  | _ :: _, [], _ => -1
def dif (a b : List UInt8) : Int := difA a b 0
theorem difA_cases : ∀ (a b : List UInt8) (i : Nat), (difA a b i = -1 ∧ (a <+: b ∨ b <+: a)) ∨ (∃ k : Nat, difA a b i = (i + k : Nat) ∧ k < a.length ∧ k < b.length ∧ a.take k = b.take k ∧ a.getD k 0 ≠ b.getD k 0)
  | [], b, _ => .inl ⟨by cases b <;> rfl, .inl (List.nil_prefix)⟩
  | _ :: _, [], _ => .inl ⟨rfl, .inr (List.nil_prefix)⟩
  | x :: a, y :: b, i => by
    by_cases h : x = y
    · subst h
      have e : difA (x :: a) (x :: b) i = difA a b (i + 1) := by rw [difA, if_pos rfl]
      rw [e]
      rcases difA_cases a b (i + 1) with ⟨h1, h2⟩ | ⟨k, h1, h2, h3, h4, h5⟩
      · refine .inl ⟨h1, ?_⟩
        rcases h2 with h2 | h2
        · exact .inl ((List.cons_prefix_cons).2 ⟨rfl, h2⟩)
        · exact .inr ((List.cons_prefix_cons).2 ⟨rfl, h2⟩)
      · exact .inr ⟨k + 1, by rw [h1]; congr 1; omega, by simpa using h2, by simpa using h3, by simp [h4], by simpa using h5⟩
    · exact .inr ⟨0, by rw [difA, if_neg h]; rfl, by simp, by simp, rfl, by simpa using h⟩
theorem dif_cases (a b : List UInt8) : (dif a b = -1 ∧ (a <+: b ∨ b <+: a)) ∨ (∃ k : Nat, dif a b = k ∧ k < a.length ∧ k < b.length ∧ a.take k = b.take k ∧ a.getD k 0 ≠ b.getD k 0) := by
  rcases difA_cases a b 0 with h | ⟨k, h1, h2⟩
  · exact .inl h
  · exact .inr ⟨k, by unfold dif; rw [h1]; congr 1; omega, h2⟩
theorem dif_self (a : List UInt8) : dif a a = -1 := by
  rcases dif_cases a a with h | ⟨k, _, _, _, _, h⟩
  · exact h.1
  · exact absurd rfl h
/-- none of these is the beginning of another one -/
def Apart (rows : List (List UInt8)) : Prop := ∀ a ∈ rows, ∀ b ∈ rows, a <+: b → a = b
theorem dif_neg {rows : List (List UInt8)} (hA : Apart rows) {a b : List UInt8} (ha : a ∈ rows) (hb : b ∈ rows) : dif a b = -1 ↔ a = b := by
  constructor
  · intro h
    rcases dif_cases a b with ⟨_, h1 | h1⟩ | ⟨k, h1, _⟩
    · exact hA a ha b hb h1
    · exact (hA b hb a ha h1).symm
    · rw [h1] at h; omega
  · rintro rfl; exact dif_self a
/-- at which bit one gave way, so many bits having been sent -/
def gaveA (best : List UInt8) (n : Nat) (r : List UInt8) : Int := if 0 ≤ dif r best ∧ dif r best < n then dif r best else -1
theorem gaveA_zero (best r : List UInt8) : gaveA best 0 r = -1 := by unfold gaveA; rw [if_neg (by omega)]
theorem dif_lt (r best : List UInt8) : dif r best < best.length := by
  rcases dif_cases r best with ⟨h, _⟩ | ⟨k, h, _, h2, _⟩ <;> omega
theorem gaveA_all (best r : List UInt8) (n : Nat) (h : best.length ≤ n) : gaveA best n r = dif r best := by
  unfold gaveA
  have h1 := dif_lt r best
  by_cases h0 : 0 ≤ dif r best
  · rw [if_pos ⟨h0, by omega⟩]
  · rw [if_neg (fun h => h0 h.1)]
    rcases dif_cases r best with ⟨h, _⟩ | ⟨k, h, _⟩ <;> omega
/-- who still sends has sent the same bits so far, and has one more -/
theorem gave_on {rows : List (List UInt8)} (hA : Apart rows) {r best : List UInt8} (hr : r ∈ rows) (hb : best ∈ rows) {n : Nat} (hn : n < best.length) (h : gaveA best n r = -1) : n < r.length ∧ r.take n = best.take n := by
  unfold gaveA at h
  rcases dif_cases r best with ⟨h1, h2⟩ | ⟨k, h1, h2, h3, h4, h5⟩
  · have e := (dif_neg hA hr hb).1 h1
    rw [e]; exact ⟨hn, rfl⟩
  · have hk : n ≤ k := by
      rcases Nat.lt_or_ge k n with hx | hx
      · rw [if_pos (by omega)] at h; omega
      · exact hx
    refine ⟨by omega, ?_⟩
    have := congrArg (List.take n) h4
    rw [List.take_take, List.take_take, Nat.min_eq_left hk] at this
    exact this
theorem gave_off {rows : List (List UInt8)} (hA : Apart rows) {r best : List UInt8} (hr : r ∈ rows) (hb : best ∈ rows) {n : Nat} (hn : best.length ≤ n) (h : gaveA best n r = -1) : r = best := by
  rw [gaveA_all best r n hn] at h
  exact (dif_neg hA hr hb).1 h
/-- one text is ahead of another -/
theorem less_cases : ∀ (a b : List UInt8), Op.bytesLess a b = true ↔ (a <+: b ∧ a ≠ b) ∨ (∃ k, k < a.length ∧ k < b.length ∧ a.take k = b.take k ∧ a.getD k 0 < b.getD k 0)
  | [], [] => by simp [Op.bytesLess]
  | [], y :: b => by simp [Op.bytesLess]
  | x :: a, [] => by simp [Op.bytesLess]
  | x :: a, y :: b => by
    have ih := less_cases a b
    by_cases h : x = y
    · subst h
      have e : Op.bytesLess (x :: a) (x :: b) = Op.bytesLess a b := by simp [Op.bytesLess]
      rw [e, ih]
      constructor
      · rintro (⟨h1, h2⟩ | ⟨k, h1, h2, h3, h4⟩)
        · exact .inl ⟨(List.cons_prefix_cons).2 ⟨rfl, h1⟩, fun e => h2 (by injection e)⟩
        · exact .inr ⟨k + 1, by simpa using h1, by simpa using h2, by simp [h3], by simpa using h4⟩
      · rintro (⟨h1, h2⟩ | ⟨k, h1, h2, h3, h4⟩)
        · exact .inl ⟨((List.cons_prefix_cons).1 h1).2, fun e => h2 (by rw [e])⟩
        · cases k with
          | zero => simp at h4
          | succ k => exact .inr ⟨k, by simpa using h1, by simpa using h2, by simpa using h3, by simpa using h4⟩
    · have e : Op.bytesLess (x :: a) (y :: b) = decide (x < y) := by simp [Op.bytesLess, h]
      rw [e]
      constructor
      · intro hlt
        exact .inr ⟨0, by simp, by simp, rfl, by simpa using hlt⟩
      · rintro (⟨h1, h2⟩ | ⟨k, h1, h2, h3, h4⟩)
        · exact absurd ((List.cons_prefix_cons).1 h1).1 h
        · cases k with
          | zero => simpa using h4
          | succ k => simp at h3; exact absurd h3.1 h
/-- none is ahead of this one -/
def Least (rows : List (List UInt8)) (best : List UInt8) : Prop := best ∈ rows ∧ ∀ r ∈ rows, Op.bytesLess r best = false
/-- where the least one sends a 1, so do all that still send -/
theorem least_one {rows : List (List UInt8)} (hA : Apart rows) (hrow : ∀ r ∈ rows, rowB r = true) {best r : List UInt8} (hL : Least rows best) (hr : r ∈ rows) {n : Nat} (hn : n < best.length) (h : gaveA best n r = -1) (h1 : best.getD n 0 = 49) : r.getD n 0 = 49 := by
  obtain ⟨h2, h3⟩ := gave_on hA hr hL.1 hn h
  have hbit : bit (r.getD n 0) = true := by
    rw [List.getD, List.getElem?_eq_getElem h2, Option.getD_some]
    have := hrow r hr
    unfold rowB at this
    exact List.all_eq_true.1 this _ (List.getElem_mem h2)
  have hno : ¬ (r.getD n 0 < best.getD n 0) := by
    intro hlt
    have := hL.2 r hr
    rw [(less_cases r best).2 (.inr ⟨n, h2, hn, h3, hlt⟩)] at this
    cases this
  rw [h1] at hno
  rcases (bit_iff (r.getD n 0)).1 hbit with hx | hx
  · exfalso
    apply hno
    rw [UInt8.lt_iff_toNat_lt]
    show (r.getD n 0).toNat < 49
    omega
  · have : (r.getD n 0).toNat = 49 := by omega
    exact UInt8.toNat_inj.1 this
theorem gave_next {rows : List (List UInt8)} (hA : Apart rows) {r best : List UInt8} (hr : r ∈ rows) (hb : best ∈ rows) {n : Nat} (hn : n < best.length) : gaveA best (n + 1) r = if gaveA best n r = -1 ∧ r.getD n 0 ≠ best.getD n 0 then (n : Int) else gaveA best n r := by
  by_cases h : gaveA best n r = -1
  · obtain ⟨h2, h3⟩ := gave_on hA hr hb hn h
    by_cases hx : r.getD n 0 = best.getD n 0
    · rw [if_neg (fun y => y.2 hx), h]
      unfold gaveA at h ⊢
      rcases dif_cases r best with ⟨q1, q2⟩ | ⟨k, q1, q2, q3, q4, q5⟩
      · rw [if_neg (by omega)]
      · have hk : n ≤ k := by
          rcases Nat.lt_or_ge k n with hy | hy
          · rw [if_pos (by omega)] at h; omega
          · exact hy
        have hk2 : k ≠ n := fun e => q5 (by rw [e]; exact hx)
        rw [if_neg (by omega)]
    · rw [if_pos ⟨h, hx⟩]
      unfold gaveA at h ⊢
      rcases dif_cases r best with ⟨q1, q2⟩ | ⟨k, q1, q2, q3, q4, q5⟩
      · have e := (dif_neg hA hr hb).1 q1
        exact absurd (by rw [e]) hx
      · have hk : n ≤ k := by
          rcases Nat.lt_or_ge k n with hy | hy
          · rw [if_pos (by omega)] at h; omega
          · exact hy
        have hk2 : k = n := by
          rcases Nat.lt_or_ge n k with hy | hy
          · exfalso
            apply hx
            have := congrArg (fun l => List.getD l n 0) q4
            simpa [List.getD, List.getElem?_take, hy] using this
          · omega
        rw [if_pos (by omega), q1, hk2]
  · rw [if_neg (fun y => h y.1)]
    unfold gaveA at h ⊢
    have hx : 0 ≤ dif r best ∧ dif r best < n := by
      rcases Classical.em (0 ≤ dif r best ∧ dif r best < n) with y | y
      · exact y
      · rw [if_neg y] at h; exact absurd rfl h
    rw [if_pos hx, if_pos (by omega)]
end Bw
end Go.Proofs.YtlnkhlifkooohaaGreatDoor
