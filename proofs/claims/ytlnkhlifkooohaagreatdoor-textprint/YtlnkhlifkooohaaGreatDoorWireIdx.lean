/- Where something stands first in a list, and whether it stands there once: plain facts on lists; of no program. -/
import Derived.Test.YtlnkhlifkooohaaGreatDoorWireSendM
namespace Go.Proofs.YtlnkhlifkooohaaGreatDoor
namespace Bw
open Bm

/-- where v stands first, or -1 -/
def idxG {α : Type} [DecidableEq α] : List α → α → Int
  | [], _ => -1
  | x :: xs, v => if x = v then 0 else if idxG xs v = -1 then -1 else idxG xs v + 1
theorem idxG_ge {α : Type} [DecidableEq α] (xs : List α) (v : α) : -1 ≤ idxG xs v ∧ idxG xs v < xs.length := by
  induction xs with
  | nil => simp [idxG]
  | cons x xs ih =>
    rw [idxG, List.length_cons]
    split
    · omega
    · split <;> omega
theorem idxG_app {α : Type} [DecidableEq α] (a b : List α) (v : α) (h : v ∉ a) : idxG (a ++ b) v = if idxG b v = -1 then -1 else idxG b v + a.length := by
  induction a with
  | nil => simp
  | cons x a ih =>
    have h1 : x ≠ v := fun e => h (by rw [e]; exact List.mem_cons_self)
    have h2 : v ∉ a := fun e => h (List.mem_cons_of_mem _ e)
    have hb := idxG_ge b v
    rw [List.cons_append, idxG, if_neg h1, ih h2, List.length_cons]
    split
    · simp
    · rw [if_neg (by omega)]; omega
theorem idxG_at {α : Type} [DecidableEq α] (a b : List α) (v : α) (h : v ∉ a) : idxG (a ++ v :: b) v = a.length := by
  rw [idxG_app a _ v h, idxG, if_pos rfl]; simp
theorem idxG_none {α : Type} [DecidableEq α] (a : List α) (v : α) (h : v ∉ a) : idxG a v = -1 := by
  have := idxG_app a [] v h
  simpa [idxG] using this
theorem firstG {α : Type} [DecidableEq α] {xs : List α} {v : α} (h : v ∈ xs) : ∃ a b, xs = a ++ v :: b ∧ v ∉ a := by
  induction xs with
  | nil => cases h
  | cons x xs ih =>
    by_cases e : x = v
    · exact ⟨[], xs, by rw [e]; rfl, by simp⟩
    · have h' : v ∈ xs := by
        rcases List.mem_cons.1 h with h | h
        · exact absurd h.symm e
        · exact h
      obtain ⟨a, b, rfl, ha⟩ := ih h'
      exact ⟨x :: a, b, rfl, by
        intro hm
        rcases List.mem_cons.1 hm with hm | hm
        · exact e hm.symm
        · exact ha hm⟩
theorem idxG_hit {α : Type} [DecidableEq α] (xs : List α) (v d : α) (j : Nat) (hj : j < xs.length) (h : v ∉ xs.take j) (he : v = xs.getD j d) : idxG xs v = j := by
  have e1 : xs = xs.take j ++ xs.drop j := (List.take_append_drop j xs).symm
  have e2 : xs.drop j = v :: xs.drop (j + 1) := by rw [List.drop_eq_getElem_cons hj, he]; simp [List.getD, hj]
  have e3 := idxG_at (xs.take j) (xs.drop (j + 1)) v h
  rw [← e2, ← e1, List.length_take] at e3
  omega
theorem idxG_next {α : Type} [DecidableEq α] (xs : List α) (v d : α) (j : Nat) (hj : j < xs.length) (h : v ∉ xs.take j) (he : v ≠ xs.getD j d) : v ∉ xs.take (j + 1) := by
  rw [List.take_succ_eq_append_getElem hj, List.mem_append, List.mem_singleton]
  rintro (h' | h')
  · exact h h'
  · exact he (by rw [h']; simp [List.getD, hj])
theorem idxG_pos {α : Type} [DecidableEq α] (xs : List α) (v : α) : 0 ≤ idxG xs v ↔ v ∈ xs := by
  by_cases h : v ∈ xs
  · obtain ⟨a, b, rfl, ha⟩ := firstG h
    rw [idxG_at a b v ha]; simp [h]
  · rw [idxG_none xs v h]; simp [h]
/-- what 'only' tells: the error, and the place -/
def onlyE {α : Type} [DecidableEq α] (l : List α) (x : α) : Int := if idxG l x < 0 then 8 else if x ∈ l.drop ((idxG l x).toNat + 1) then 9 else 0
def onlyN {α : Type} [DecidableEq α] (l : List α) (x : α) : Int := if onlyE l x = 0 then idxG l x else 0
theorem onlyE_mem {α : Type} [DecidableEq α] {l : List α} {x : α} (h : x ∈ l) : onlyE l x = if 1 < l.count x then 9 else 0 := by
  obtain ⟨a, b, rfl, ha⟩ := firstG h
  unfold onlyE
  have hc : (a ++ x :: b).count x = b.count x + 1 := by
    rw [List.count_append, List.count_cons_self, List.count_eq_zero.2 ha]; omega
  have hd : (a ++ x :: b).drop (((a.length : Nat) : Int).toNat + 1) = b := by
    rw [Int.toNat_natCast, ← List.drop_drop, List.drop_left]; rfl
  rw [idxG_at a b x ha, if_neg (by omega), hd, hc]
  by_cases hb : x ∈ b
  · rw [if_pos hb, if_pos (by have := List.count_pos_iff.2 hb; omega)]
  · rw [if_neg hb, if_neg (by rw [List.count_eq_zero.2 hb]; omega)]
/-- the rows' least, told by where all others part from it -/
theorem dif_count {rows : List (List UInt8)} (hA : Apart rows) {best : List UInt8} (hb : best ∈ rows) : ((rows.map fun r => dif r best).count (-1)) = rows.count best := by
  have key : ∀ l : List (List UInt8), (∀ r ∈ l, r ∈ rows) → (l.map fun r => dif r best).count (-1) = l.count best := by
    intro l
    induction l with
    | nil => intro _; rfl
    | cons r l ih =>
      intro h
      have hr := h r List.mem_cons_self
      have := ih (fun x hx => h x (List.mem_cons_of_mem _ hx))
      rw [List.map_cons]
      by_cases e : r = best
      · subst e
        rw [List.count_cons_self, dif_self, List.count_cons_self, this]
      · have hd : dif r best ≠ -1 := fun hx => e ((dif_neg hA hr hb).1 hx)
        rw [List.count_cons_of_ne hd, List.count_cons_of_ne e, this]
  exact key rows (fun _ h => h)
theorem dif_idx {rows : List (List UInt8)} (hA : Apart rows) {best : List UInt8} (hb : best ∈ rows) : idxG (rows.map fun r => dif r best) (-1) = idxG rows best := by
  have key : ∀ l : List (List UInt8), (∀ r ∈ l, r ∈ rows) → idxG (l.map fun r => dif r best) (-1) = idxG l best := by
    intro l
    induction l with
    | nil => intro _; rfl
    | cons r l ih =>
      intro h
      have hr := h r List.mem_cons_self
      have := ih (fun x hx => h x (List.mem_cons_of_mem _ hx))
      rw [List.map_cons, idxG, idxG, this]
      by_cases e : r = best
      · subst e
        rw [dif_self, if_pos rfl, if_pos rfl]
      · have hd : dif r best ≠ -1 := fun hx => e ((dif_neg hA hr hb).1 hx)
        rw [if_neg hd, if_neg e]
  exact key rows (fun _ h => h)
theorem dif_mem {rows : List (List UInt8)} {best : List UInt8} (hb : best ∈ rows) : (-1 : Int) ∈ rows.map fun r => dif r best := List.mem_map.2 ⟨best, hb, dif_self best⟩
end Bw
end Go.Proofs.YtlnkhlifkooohaaGreatDoor
